/-
  Whether files are the same, be their spans as many as they may. Conditions: as each theorem states them.
-/
import Derived.Test.YteellffkjjllgaaQDrHelpB
import Derived.SizedLaws
import Derived.Test.YteellffkjjllgaaQDrShown
namespace Go.Proofs.Yteellffkjjllgaa
open Go.RowKit Go.Rc5

set_option maxHeartbeats 2000000 in
theorem same_wide (A B : List SpI) (a b : Option Addr) (ca cb na nb : Nat) (w : World) (hA : SpansAt w a A) (hB : SpansAt w b B) (ha : A.length = na) (hb : B.length = nb) (hl : na ≤ 8796093022208) :
    Calls Try.prog 34 #[.slice a na ca, .slice b nb cb] w fun e w' => e = .returned (.bool (decide (A = B))) ∧ Below w.heap.size w w' := by
  have HA := Lib.hid (fun W (hb : Below w.heap.size w W) => SpansAt.below hA hb)
  have HB := Lib.hid (fun W (hb : Below w.heap.size w W) => SpansAt.below hB hb)
  have HLA := Lib.hid ha
  have HLB := Lib.hid hb
  clear hA hB ha hb
  by_cases he : na = nb
  · subst he
    go_enter Try.func34, Try.ntmps34
    go_wp2
    go_loopw [5] (fun i wr => ∃ k : Nat, i = .int .i64 k ∧ k ≤ na ∧ (∀ j, j < k → A.getD j (0, 0) = B.getD j (0, 0)) ∧ Below w.heap.size w wr) (fun i _ => (na - intOf i).toNat)
    case atStart => exact ⟨0, rfl, Nat.zero_le _, fun j hj => absurd hj (Nat.not_lt_zero _), Below.refl _ _⟩
    case round =>
      obtain ⟨k, rfl, hk, hall, hBw⟩ := hrel
      have HAL := Lib.hid hall
      clear hall
      by_cases hlt : k < na
      · have hltI : (k : Int) < na := by omega
        obtain ⟨x, rfl, c0, c1⟩ := HA.out wr hBw k (by rw [HLA.out]; exact hlt)
        obtain ⟨y, rfl, d0, d1⟩ := HB.out wr hBw k (by rw [HLB.out]; exact hlt)
        by_cases hs : A.getD k (0, 0) = B.getD k (0, 0)
        · have HS := Lib.hid hs
          rw [← hs] at d0 d1
          clear hs
          generalize A.getD k (0, 0) = s at c0 c1 d0 d1
          obtain ⟨s1, s2⟩ := s
          dsimp only at c0 c1 d0 d1
          go_wp2_with fail
          go_quiet (fail)
          have HBQ := Lib.hid (below_drewN hBw nq)
          clear c0 c1 d0 d1
          generalize wr.drewN nq = wq at *
          go_wp2
          refine ⟨⟨k + 1, by go_num, by omega, fun j hj => ?_, HBQ.out⟩, by simp [intOf]; omega⟩
          by_cases e : j = k
          · subst e
            exact HS.out
          · exact HAL.out j (by omega)
        · have HS := Lib.hid hs
          clear hs
          generalize hs : A.getD k (0, 0) = s at *
          generalize ht : B.getD k (0, 0) = t at *
          have HNE : Hid (¬ A = B) := fun e => HS.out (by rw [← hs, ← ht, e])
          obtain ⟨s1, s2⟩ := s
          obtain ⟨t1, t2⟩ := t
          dsimp only at c0 c1 d0 d1
          clear hs ht
          by_cases h1 : s1 = t1
          · subst h1
            have h2 : (s2 == t2) = false := by
              rw [beq_eq_false_iff_ne]
              intro e
              exact HS.out (by rw [e])
            clear HS
            go_wp2_with fail
            go_quiet (fail)
            have HBQ := Lib.hid (below_drewN hBw nq)
            clear c0 c1 d0 d1
            generalize wr.drewN nq = wq at *
            go_wp2
            go_ret
            exact ⟨by rw [decide_eq_false HNE.out]; rfl, HBQ.out⟩
          · have h1B : (s1 == t1) = false := by simpa using h1
            clear h1 HS
            go_wp2_with fail
            go_quiet (fail)
            have HBQ := Lib.hid (below_drewN hBw nq)
            clear c0 c1 d0 d1
            generalize wr.drewN nq = wq at *
            go_wp2
            go_ret
            exact ⟨by rw [decide_eq_false HNE.out]; rfl, HBQ.out⟩
      · have hltI : ¬ (k : Int) < na := by omega
        obtain rfl : k = na := by omega
        go_wp2
        go_ret
        have e : A = B := list_same (HLA.out.trans HLB.out.symm) (fun j hj => HAL.out j (by have := HLA.out; omega))
        exact ⟨by rw [decide_eq_true e]; rfl, hBw⟩
  · have heI : ((na : Int) != nb) = true := by simp; omega
    have e : ¬ A = B := fun e => he (by rw [← HLA.out, ← HLB.out, e])
    rw [decide_eq_false e]
    clear e he
    go_enter Try.func34, Try.ntmps34
    go_wp2
    go_ret
    exact ⟨rfl, Below.refl _ _⟩


open Go.Rc6 Go.Rc7

open Classical in
set_option maxRecDepth 100000 in
set_option maxHeartbeats 8000000 in
theorem files_same_wide (A B : List Fl) (a b : Option Addr) (ca cb na nb : Nat) (w : World) (hA : FilesAt w a A) (hB : FilesAt w b B) (ha : A.length = na) (hb : B.length = nb) (hl : na ≤ 1000000) (hs : ∀ f ∈ A, f.spans.length ≤ 8796093022208) :
    Calls Try.prog 13 #[.slice a na ca, .slice b nb cb] w fun e w' => e = .returned (.bool (decide (A = B))) ∧ Below w.heap.size w w' := by
  have HA := Lib.hid (fun W (hb : Below w.heap.size w W) => FilesAt.below hA hb)
  have HBf := Lib.hid (fun W (hb : Below w.heap.size w W) => FilesAt.below hB hb)
  have HLA := Lib.hid ha
  have HLB := Lib.hid hb
  have HS := Lib.hid hs
  clear hA hB ha hb hs
  by_cases he : na = nb
  · subst he
    go_enter Try.func13, Try.ntmps13
    go_wp2
    go_loopw [5] (fun i wr => ∃ k : Nat, i = .int .i64 k ∧ k ≤ na ∧ Hid (∀ j, j < k → A.getD j default = B.getD j default) ∧ Below w.heap.size w wr) (fun i _ => (na - intOf i).toNat)
    case atStart => exact ⟨0, rfl, Nat.zero_le _, fun j hj => absurd hj (Nat.not_lt_zero _), Below.refl _ _⟩
    case round =>
      obtain ⟨k, rfl, hk, HAL, hBw⟩ := hrel
      have HB := Lib.hid hBw
      clear hBw
      by_cases hlt : k < na
      · have hltI : (k : Int) < na := by omega
        have hka : k < A.length := by rw [HLA.out]; exact hlt
        have hkb : k < B.length := by rw [HLB.out]; exact hlt
        obtain ⟨x, rfl, b0, b1, p, cp, b2, hsp⟩ := HA.out wr HB.out k hka
        obtain ⟨y, rfl, g0, g1, p', cp', g2, hsp'⟩ := HBf.out wr HB.out k hkb
        have c0 := fun q => after_cell b0 (row_block b0) q
        have c1 := fun q => after_cell b1 (row_block b1) q
        have c2 := fun q => after_cell b2 (row_block b2) q
        have d0 := fun q => after_cell g0 (row_block g0) q
        have d1 := fun q => after_cell g1 (row_block g1) q
        have d2 := fun q => after_cell g2 (row_block g2) q
        have HNE : Hid (A.getD k default ≠ B.getD k default → ¬ A = B) := fun h e => h (by rw [e])
        have HEQ : Hid (A.getD k default = B.getD k default → ∀ j, j < k + 1 → A.getD j default = B.getD j default) := fun h j hj => by
          by_cases e : j = k
          · subst e
            exact h
          · exact HAL.out j (by omega)
        have HSS := Lib.hid (HS.out _ (getD_mem (d := default) hka))
        generalize A.getD k default = f at *
        generalize B.getD k default = g at *
        have hq := eq_beq f.name g.name
        have FS := Lib.hid (fun q => after_of (W := wr) (fun W hW => same_wide f.spans g.spans p p' cp cp' _ _ W (SpansAt.below hsp hW) (SpansAt.below hsp' hW) rfl rfl HSS.out) q)
        clear b0 b1 b2 g0 g1 g2 hsp hsp' hka hkb
        by_cases h0 : f.name = g.name
        · rw [decide_eq_true h0] at hq
          by_cases h1 : f.size = g.size
          · have h1' : (f.size == g.size) = true := beq_iff_eq.2 h1
            by_cases h2 : f.spans = g.spans
            · have hd : decide (f.spans = g.spans) = true := decide_eq_true h2
              rw [hd] at FS
              have HI2 := Lib.hid (HEQ.out (fl_ext h0 h1 h2))
              clear hd h2 h0 HNE HEQ
              go_wp2_with fail
              refine wp_region_after (by kernel_rfl) (by kernel_rfl) ?_
              repeat (go_big_quiet_step (first | with_reducible exact FS.out _))
              refine wpQuiet_nil ?_
              intro _ hw
              obtain ⟨q, rfl⟩ := hw
              have HP := Lib.hid (below_trans HB.out q.is)
              generalize q.to = wp at *
              go_wp2
              exact ⟨⟨k + 1, by go_num, by omega, HI2.out, HP.out⟩, by simp [intOf]; omega⟩
            · have hd : decide (f.spans = g.spans) = false := decide_eq_false h2
              rw [hd] at FS
              have HN := Lib.hid (HNE.out (fun e => h2 (by rw [e])))
              clear hd h2 h0 HNE HEQ
              go_wp2_with fail
              refine wp_region_after (by kernel_rfl) (by kernel_rfl) ?_
              repeat (go_big_quiet_step (first | with_reducible exact FS.out _))
              refine wpQuiet_nil ?_
              intro _ hw
              obtain ⟨q, rfl⟩ := hw
              have HP := Lib.hid (below_trans HB.out q.is)
              generalize q.to = wp at *
              go_wp2
              go_ret
              exact ⟨by rw [decide_eq_false HN.out]; rfl, HP.out⟩
          · have h1' : (f.size == g.size) = false := beq_eq_false_iff_ne.2 h1
            have h1'' : (f.size != g.size) = true := by rw [bne, h1']; rfl
            have HN := Lib.hid (HNE.out (fun e => h1 (by rw [e])))
            clear h0 HNE HEQ
            go_wp2_with fail
            refine wp_region_after (by kernel_rfl) (by kernel_rfl) ?_
            repeat (go_big_quiet_step (first | fail))
            refine wpQuiet_nil ?_
            intro _ hw
            obtain ⟨q, rfl⟩ := hw
            have HP := Lib.hid (below_trans HB.out q.is)
            generalize q.to = wp at *
            go_wp2
            go_ret
            exact ⟨by rw [decide_eq_false HN.out]; rfl, HP.out⟩
        · rw [decide_eq_false h0] at hq
          have hq' : (f.name.toList != g.name.toList) = true := by rw [bne, hq]; rfl
          have HN := Lib.hid (HNE.out (fun e => h0 (by rw [e])))
          clear h0 HNE HEQ
          go_wp2_with fail
          refine wp_region_after (by kernel_rfl) (by kernel_rfl) ?_
          repeat (go_big_quiet_step (first | fail))
          refine wpQuiet_nil ?_
          intro _ hw
          obtain ⟨q, rfl⟩ := hw
          have HP := Lib.hid (below_trans HB.out q.is)
          generalize q.to = wp at *
          go_wp2
          go_ret
          exact ⟨by rw [decide_eq_false HN.out]; rfl, HP.out⟩
      · obtain rfl : k = na := by omega
        have hltI : ¬ (k : Int) < k := by omega
        have HE := Lib.hid (files_same (A := A) (B := B) (by rw [HLA.out, HLB.out]) (by rw [HLA.out]; exact HAL.out))
        clear HAL
        go_wp2
        go_ret
        exact ⟨by rw [decide_eq_true HE.out]; rfl, HB.out⟩
  · have he' : ((na : Int) == nb) = false := beq_eq_false_iff_ne.2 (by omega)
    have HN : Hid (¬ A = B) := fun e => he (by rw [← HLA.out, ← HLB.out, e])
    clear HA HBf
    go_enter Try.func13, Try.ntmps13
    go_wp2
    go_ret
    exact ⟨by rw [decide_eq_false HN.out]; rfl, Below.refl _ _⟩


/-- One file in a row of its own, of the program's type or of the document's. -/
theorem one_any {W : World} {f : Fl} {p : Option Addr} {c : Nat} {t : TypeId} (h : SpansAt W p f.spans) : FilesAt (W.alloc (.cells #[.string f.name, .int .i64 f.size, .slice p f.spans.length c] t)) (some ⟨W.heap.size, 0, none⟩) [f] := by
  have hb := (Below.refl W.heap.size W).alloc (Nat.le_refl _) (.cells #[.string f.name, .int .i64 f.size, .slice p f.spans.length c] t)
  intro i hi
  obtain rfl : i = 0 := by simp at hi; omega
  refine ⟨_, rfl, ?_, ?_, p, c, ?_, SpansAt.below h hb⟩
  · rw [add_own, World.cell?_alloc_new]; rfl
  · rw [add_own, World.cell?_alloc_new]; rfl
  · rw [add_own, World.cell?_alloc_new]; rfl

/-- Two rows of one file, one laid behind the other. -/
theorem two_any {W : World} {f : Fl} {p q : Option Addr} {c d : Nat} {t u : TypeId} (hp : SpansAt W p f.spans) (hq : SpansAt W q f.spans) :
    FilesAt ((W.alloc (.cells #[.string f.name, .int .i64 f.size, .slice p f.spans.length c] t)).alloc (.cells #[.string f.name, .int .i64 f.size, .slice q f.spans.length d] u)) (some ⟨W.heap.size, 0, none⟩) [f] ∧
    FilesAt ((W.alloc (.cells #[.string f.name, .int .i64 f.size, .slice p f.spans.length c] t)).alloc (.cells #[.string f.name, .int .i64 f.size, .slice q f.spans.length d] u)) (some ⟨W.heap.size + 1, 0, none⟩) [f] ∧
    Below W.heap.size W ((W.alloc (.cells #[.string f.name, .int .i64 f.size, .slice p f.spans.length c] t)).alloc (.cells #[.string f.name, .int .i64 f.size, .slice q f.spans.length d] u)) := by
  have h1 := (Below.refl W.heap.size W).alloc (Nat.le_refl _) (.cells #[.string f.name, .int .i64 f.size, .slice p f.spans.length c] t)
  have h2 := (Below.refl _ (W.alloc (.cells #[.string f.name, .int .i64 f.size, .slice p f.spans.length c] t))).alloc (Nat.le_refl _) (.cells #[.string f.name, .int .i64 f.size, .slice q f.spans.length d] u)
  refine ⟨FilesAt.below (one_any hp) h2, ?_, below_trans h1 h2⟩
  have h3 := one_any (c := d) (t := u) (SpansAt.below hq h1)
  rw [World.size_alloc] at h3
  exact h3

set_option maxRecDepth 100000 in
theorem open_file_sized {H : Type} {enc : TypeId × Value → H} {w : World} {base b0 : Nat} {spare : Nat → Bool} {held : Bool} {r : Reach} {v : Value} {d : DataW H} {q : List MemPlace} {ts : List TypeId} {ds : List (DataW H)}
    (hz : (DataW.weightsEach Try.prog ts ds).all (· ≤ reachBytes) = true) {j : Nat} (ht : ts[j]? = some 35) (hd : ds[j]? = some d)
    (hv : Value.okWide Try.prog w r b0 35 v) (h : DataW.Trod enc Try.prog w base spare held 35 v d q) :
    ∃ (f : Fl) (p : Option Addr) (c : Nat), v = .agg #[.string f.name, .int .i64 f.size, .slice p f.spans.length c] ∧ IsFile w p f ∧ f.spans.length ≤ 8796093022208 := by
  obtain ⟨v0, v1, v2, y0, y1, y2, n, rfl, rfl, rfl, t0, t1, t2⟩ := Go.Joins.open_agg3 (P := Try.prog) Try.underlying35 (by kernel_rfl) (by kernel_rfl) hv h
  obtain ⟨s, e0, _, hs⟩ := DataW.trod_string Try.underlying9 t0
  obtain ⟨n1, e1, _, w1⟩ := DataW.trod_int Try.underlying3 t1
  obtain ⟨p, l, c, e2⟩ := Go.Joins.slice_form Try.underlying33 t2
  simp only [List.cons.injEq, and_true] at e0 e1 e2
  subst e0 e1 e2
  have hl : l ≤ 8796093022208 := by
    rcases DataW.trod_slice Try.underlying33 t2 with ⟨h0, _⟩ | ⟨a, len, cap, elems, rest, n', _, hcs, hx, _, _, _, hel, _⟩
    · simp only [List.cons.injEq, Value.slice.injEq, and_true] at h0
      omega
    · simp only [List.cons.injEq, Value.slice.injEq, and_true] at hcs
      obtain ⟨_, rfl, _⟩ := hcs
      have hb : Try.prog.bytesOf 59 = 16 := by kernel_rfl
      have hm := List.all_eq_true.1 hz _ (DataW.weights_mem_each ht hd ((elems.length + rest.length) * Try.prog.bytesOf 59) (by
        simp [DataW.weights, DataW.weightsEach, Try.underlying35, Try.underlying33, hx]))
      rw [hb] at hm
      have hm2 := of_decide_eq_true hm
      unfold reachBytes at hm2
      omega
  obtain ⟨S, hS⟩ := open_spans t2
  exact ⟨⟨s, n1, S⟩, p, c, by rw [show (⟨s, n1, S⟩ : Fl).spans.length = l from hS.1], ⟨hS.2.1, ⟨by unfold maxLen at hs; omega, in64_of w1, hS.2.2⟩⟩, by rw [show (⟨s, n1, S⟩ : Fl).spans.length = l from hS.1]; exact hl⟩

end Go.Proofs.Yteellffkjjllgaa
