/-
  Small words for the statements of layer 5: what Norm and Rest answer, case by case; rows that are written out. Conditions: as each theorem states them.
-/
import Derived.Test.YtcknpmlekpgafaaSpP
import Derived.Test.YtcknpmlekpgafaaSpTakeM
namespace Go.Rc5

theorem fits_total {L : List SpI} {N : List Sp} {n : Nat} (h : Fits L N n) : ∀ s ∈ N, s.2 ≤ 8192 := fun s hs => by
  have := h.fit s hs
  have := h.hi
  omega

theorem rows_fit (f : Nat → Bool) (n : Nat) : ∀ s ∈ rows f n, s.1 + s.2 ≤ n := fun s hs => by
  have h1 := (rows_ok f n).ch.some s hs
  have h2 : memB (rows f n) (s.1 + s.2 - 1) = true := by
    rw [memB_iff]
    exact ⟨s, hs, by omega, by omega⟩
  rw [(rows_ok f n).mem, Bool.and_eq_true, decide_eq_true_eq] at h2
  omega

end Go.Rc5
namespace Go.Proofs.Ytcknpmlekpgafaa
open Go.RowKit Go.Rc5

theorem RowAt.ok {N : List Sp} {f : Nat → Bool} {n : Nat} {w : World} {e : Ending} {w' : World} (h : RowAt N f n w e w') (hp : N.Pairwise Apart) : ∃ v, e = .returned (.tuple #[v, .int .i64 0]) ∧ Fresh (spT v (castS (rows f n))) w w' := by
  rcases h with ⟨_, hn, _⟩ | ⟨v, he, _, hf⟩
  · exact absurd hp hn
  · exact ⟨v, he, hf⟩

theorem RowAt.no {N : List Sp} {f : Nat → Bool} {n : Nat} {w : World} {e : Ending} {w' : World} (h : RowAt N f n w e w') (hp : ¬ N.Pairwise Apart) : e = .returned (.tuple #[.slice none 0 0, .int .i64 5]) ∧ Below w.heap.size w w' := by
  rcases h with ⟨he, _, hb⟩ | ⟨v, _, hn, _⟩
  · exact ⟨he, hb⟩
  · exact absurd hn hp

theorem YesIf.yes {p : Prop} {w : World} {e : Ending} {w' : World} (h : YesIf p w e w') (hp : p) : e = .returned (.bool true) ∧ Below w.heap.size w w' := by
  obtain ⟨f, he, hf, hb⟩ := h
  rw [hf.2 hp] at he
  exact ⟨he, hb⟩

theorem YesIf.no {p : Prop} {w : World} {e : Ending} {w' : World} (h : YesIf p w e w') (hp : ¬ p) : e = .returned (.bool false) ∧ Below w.heap.size w w' := by
  obtain ⟨f, he, hf, hb⟩ := h
  cases f with
  | true => exact absurd (hf.1 rfl) hp
  | false => exact ⟨he, hb⟩

/-- A row that is written out. -/
theorem spans_lit (L : List SpI) (w : World) : SpansAt (w.alloc (.cells (flatI L).toArray 34)) (some ⟨w.heap.size, 0, none⟩) L := by
  intro i hi
  obtain ⟨h0, h1⟩ := flatI_at L i hi
  refine ⟨_, rfl, ?_, ?_⟩
  · rw [add_own, World.cell?_alloc_new]
    simpa using h0
  · rw [add_own, World.cell?_alloc_new]
    simpa using h1

theorem row_of {v : Value} {L : List SpI} {w w' : World} (h : Fresh (spT v L) w w') : ∃ a c, v = .slice a L.length c ∧ SpansAt w' a L ∧ Below w.heap.size w w' := by
  have hb := h.bel
  obtain ⟨O, ⟨ho, _⟩, _⟩ := h
  obtain ⟨a, c, rfl⟩ := own_slice ho
  exact ⟨a, c, rfl, (spans_own ho).2, hb⟩

theorem spans_none (w : World) : SpansAt w none [] := fun _ hi => absurd hi (Nat.not_lt_zero _)

theorem crew_spans {U : Nat → Prop} {w0 w : World} {l : List (Thing 0)} {a : Option Addr} {n c : Nat} {L : List SpI} (h : Crew U w0 l w) (i : Nat) (hi : l[i]? = some (rowT 0 34 2 (.slice a n c) n (flatI L))) : SpansAt w a L := (spans_own (h.own i hi)).2

set_option maxRecDepth 100000 in
set_option maxHeartbeats 4000000 in
theorem shown_any (w : World) : Calls Try.prog 9 #[] w fun e w' => e = .returned (.bool true) ∧ Below w.heap.size w w' := by
  have f1 : Fits [(3, 2), (1, 2)] [(3, 2), (1, 2)] 9 := ⟨by decide, by decide, rfl, by decide, by decide⟩
  have f2 : Fits [(1, 4)] [(1, 4)] 9 := ⟨by decide, by decide, rfl, by decide, by decide⟩
  have p1 : ([(3, 2), (1, 2)] : List Sp).Pairwise Apart := by
    refine List.Pairwise.cons ?_ (List.pairwise_singleton _ _)
    intro t ht x hx
    rw [List.mem_singleton] at ht
    subst ht
    rw [Bool.eq_false_iff]
    intro e
    have h1 := (inB_iff _ _).1 hx
    have h2 := (inB_iff _ _).1 e
    dsimp only at h1 h2
    omega
  have r1 : castS (rows (memB [(3, 2), (1, 2)]) 9) = [(1, 4)] := by decide
  have r2 : castS (rows (fun x => !memB [(1, 4)] x) 9) = [(0, 1), (5, 4)] := by decide
  have c3 : Ch 0 [(1, 4), (7, 2)] := ⟨by decide, by decide, by decide, by decide, trivial⟩
  have r3 : castS (rows (oneB [(1, 4), (7, 2)] 5) 8192) = [(1, 4), (7, 1)] := by
    rw [rows_one c3 (by decide)]
    decide
  have r4 : castS (rows (twoB [(1, 4), (7, 2)] 5) 8192) = [(8, 1)] := by
    rw [rows_two c3 (by decide)]
    decide
  have HP := Lib.hid (pnorm_good [(3, 2), (1, 2)] [(3, 2), (1, 2)] 9 (some ⟨w.heap.size, 0, none⟩) 2 2 _ (spans_lit _ w) rfl (by omega) f1)
  have F1 := Lib.hid f1
  have F2 := Lib.hid f2
  have P1 := Lib.hid p1
  have R1 := Lib.hid r1
  have R2 := Lib.hid r2
  have R3 := Lib.hid r3
  have R4 := Lib.hid r4
  have C3 := Lib.hid c3
  clear f1 f2 p1 r1 r2 r3 r4 c3
  go_enter Try.func9, Try.ntmps9
  go_wp2_with fail
  refine HP.out.mono ?_
  rintro e w1 hr
  obtain ⟨v, rfl, hf⟩ := hr.ok P1.out
  rw [R1.out] at hf
  have HW := Lib.hid (below_trans (ba (Below.refl _ w) _) hf.bel)
  obtain ⟨O, ⟨ho, _⟩, _⟩ := hf
  obtain ⟨a1, k1, rfl⟩ := own_slice ho
  have HA := Lib.hid (spans_own ho).2
  clear hr ho HP
  go_wp2_with fail
  refine (prest_good [(1, 4)] [(1, 4)] 9 a1 k1 1 w1 HA.out rfl (by omega) F2.out).mono ?_
  rintro e w2 hr
  obtain ⟨v, rfl, hf⟩ := hr.ok (List.pairwise_singleton _ _)
  rw [R2.out] at hf
  replace HW := Lib.hid (below_trans HW.out hf.bel)
  replace HA := Lib.hid (SpansAt.below HA.out hf.bel)
  obtain ⟨O, ⟨ho, _⟩, _⟩ := hf
  obtain ⟨a2, k2, rfl⟩ := own_slice ho
  have HB := Lib.hid (spans_own ho).2
  clear hr ho
  go_wp2_with fail
  have hal : Below w2.heap.size w2 (w2.alloc (.cells (flatI [(1, 4), (7, 2)]).toArray 34)) := (Below.refl _ w2).alloc (Nat.le_refl _) _
  refine (ptake_yes [(1, 4), (7, 2)] (some ⟨w2.heap.size, 0, none⟩) 2 2 5 _ (spans_lit _ w2) rfl (by omega) C3.out (by decide) (by decide)).mono ?_
  rintro e w3 ⟨v1, v2, rfl, hc⟩
  rw [R3.out, R4.out] at hc
  replace HW := Lib.hid (below_trans (below_trans HW.out hal) hc.bel)
  replace HA := Lib.hid (SpansAt.below (SpansAt.below HA.out hal) hc.bel)
  replace HB := Lib.hid (SpansAt.below (SpansAt.below HB.out hal) hc.bel)
  obtain ⟨a3, k3, rfl⟩ := hc.slice 0 rfl
  obtain ⟨a4, k4, rfl⟩ := hc.slice 1 rfl
  have HC := Lib.hid (crew_spans hc 0 rfl)
  have HD := Lib.hid (crew_spans hc 1 rfl)
  clear hc hal
  go_wp2_with fail
  have hal : Below w3.heap.size w3 (w3.alloc (.cells (flatI [(1, 4)]).toArray 34)) := (Below.refl _ w3).alloc (Nat.le_refl _) _
  have C := same_any [(1, 4)] [(1, 4)] a1 (some ⟨w3.heap.size, 0, none⟩) k1 1 1 1 _ (SpansAt.below HA.out hal) (spans_lit [(1, 4)] w3) rfl rfl (by omega)
  rw [decide_eq_true rfl] at C
  refine C.mono ?_
  clear C
  rintro e w4 ⟨rfl, hb⟩
  replace HW := Lib.hid (below_trans (below_trans HW.out hal) hb)
  replace HB := Lib.hid (SpansAt.below (SpansAt.below HB.out hal) hb)
  replace HC := Lib.hid (SpansAt.below (SpansAt.below HC.out hal) hb)
  replace HD := Lib.hid (SpansAt.below (SpansAt.below HD.out hal) hb)
  clear hal hb
  go_wp2_with fail
  have hal : Below w4.heap.size w4 (w4.alloc (.cells (flatI [(0, 1), (5, 4)]).toArray 34)) := (Below.refl _ w4).alloc (Nat.le_refl _) _
  have C := same_any [(0, 1), (5, 4)] [(0, 1), (5, 4)] a2 (some ⟨w4.heap.size, 0, none⟩) k2 2 2 2 _ (SpansAt.below HB.out hal) (spans_lit [(0, 1), (5, 4)] w4) rfl rfl (by omega)
  rw [decide_eq_true rfl] at C
  refine C.mono ?_
  clear C
  rintro e w5 ⟨rfl, hb⟩
  replace HW := Lib.hid (below_trans (below_trans HW.out hal) hb)
  replace HC := Lib.hid (SpansAt.below (SpansAt.below HC.out hal) hb)
  replace HD := Lib.hid (SpansAt.below (SpansAt.below HD.out hal) hb)
  clear hal hb
  go_wp2_with fail
  have hal : Below w5.heap.size w5 (w5.alloc (.cells (flatI [(1, 4), (7, 1)]).toArray 34)) := (Below.refl _ w5).alloc (Nat.le_refl _) _
  have C := same_any [(1, 4), (7, 1)] [(1, 4), (7, 1)] a3 (some ⟨w5.heap.size, 0, none⟩) k3 2 2 2 _ (SpansAt.below HC.out hal) (spans_lit [(1, 4), (7, 1)] w5) rfl rfl (by omega)
  rw [decide_eq_true rfl] at C
  refine C.mono ?_
  clear C
  rintro e w6 ⟨rfl, hb⟩
  replace HW := Lib.hid (below_trans (below_trans HW.out hal) hb)
  replace HD := Lib.hid (SpansAt.below (SpansAt.below HD.out hal) hb)
  clear hal hb
  go_wp2_with fail
  have hal : Below w6.heap.size w6 (w6.alloc (.cells (flatI [(8, 1)]).toArray 34)) := (Below.refl _ w6).alloc (Nat.le_refl _) _
  have C := same_any [(8, 1)] [(8, 1)] a4 (some ⟨w6.heap.size, 0, none⟩) k4 1 1 1 _ (SpansAt.below HD.out hal) (spans_lit [(8, 1)] w6) rfl rfl (by omega)
  rw [decide_eq_true rfl] at C
  refine C.mono ?_
  clear C
  rintro e w7 ⟨rfl, hb⟩
  replace HW := Lib.hid (below_trans (below_trans HW.out hal) hb)
  clear hal hb
  go_wp2
  go_ret
  exact ⟨rfl, HW.out⟩

end Go.Proofs.Ytcknpmlekpgafaa
