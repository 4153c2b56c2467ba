/-
  The reference's device in memory, and what its methods make of it. Conditions: as each theorem states them.
-/
import Derived.Test.YtchbmchgdhmmmaaCrew
import Derived.Test.YtchbmchgdhmmmaaDvMath
import Derived.RegionTactic
import Derived.BigRegion
namespace Go.Proofs.Ytchbmchgdhmmmaa
open Go.RowKit Go.Rc4

/-- The parts of the reference's device: a block of five cells, three rows. -/
abbrev parts (b : Nat) (d : DS) (vs vf vp : Value) : List (Thing 0) :=
  [blkT b #[vs, vf, vp, .int .i64 d.left, .bool d.down] 61, rowT 0 9 1 vs d.s.length (strs d.s), rowT 0 9 1 vf d.f.length (strs d.f), rowT 0 81 2 vp d.p.length (flat d.p)]

def refT (b : Nat) (d : DS) : Thing 0 := withT (Ok d ∧ d.left ≤ 9223372036854775807) (exT fun v : Value × Value × Value => groupT (parts b d v.1 v.2.1 v.2.2))

section
variable {O : Nat → Prop} {b : Nat} {d : DS} {vs vf vp : Value} {w w0 : World}

theorem Crew.cells5 (h : Crew O w0 (parts b d vs vf vp) w) : w.cell? ⟨b, 0, none⟩ = some vs ∧ w.cell? ⟨b, 1, none⟩ = some vf ∧ w.cell? ⟨b, 2, none⟩ = some vp ∧ w.cell? ⟨b, 3, none⟩ = some (.int .i64 d.left) ∧ w.cell? ⟨b, 4, none⟩ = some (.bool d.down) :=
  ⟨(h.at 0 rfl (j := 0) rfl).1, (h.at 0 rfl (j := 1) rfl).1, (h.at 0 rfl (j := 2) rfl).1, (h.at 0 rfl (j := 3) rfl).1, (h.at 0 rfl (j := 4) rfl).1⟩

theorem Crew.marks5 (h : Crew O w0 (parts b d vs vf vp) w) (j : Nat) (hj : j < 5) : w.frozen? ⟨b, j, none⟩ = false := by
  obtain ⟨u, hu⟩ : ∃ u, #[vs, vf, vp, .int .i64 d.left, .bool d.down][j]? = some u := ⟨_, Array.getElem?_eq_getElem (by simpa using hj)⟩
  exact (h.at 0 rfl hu).2

set_option maxHeartbeats 1000000 in
theorem rcount_zero (h : Crew O w0 (parts b d vs vf vp) w) (hl : d.left = 0) :
    Calls Try.prog 45 #[.pointer (some ⟨b, 0, none⟩)] w fun e w' => e = .returned (.bool false) ∧ Crew O w0 (parts b { d with down := true } vs vf vp) w' := by
  obtain ⟨_, _, _, c3, c4⟩ := h.cells5
  have f4 := h.marks5 4 (by omega)
  have H := Lib.hid h
  rw [hl] at c3
  clear h hl
  go_enter Try.func45, Try.ntmps45
  go_wp2
  go_ret
  exact ⟨rfl, H.out.set 0 rfl 4 (.bool true)⟩

set_option maxHeartbeats 1000000 in
theorem rcount_on (h : Crew O w0 (parts b d vs vf vp) w) (hl : ¬ d.left = 0) (h2 : d.left ≤ 9223372036854775807) :
    Calls Try.prog 45 #[.pointer (some ⟨b, 0, none⟩)] w fun e w' => e = .returned (.bool true) ∧ Crew O w0 (parts b { d with left := d.tick } vs vf vp) w' := by
  obtain ⟨_, _, _, c3, c4⟩ := h.cells5
  have f3 := h.marks5 3 (by omega)
  have H := Lib.hid h
  have h0 : (d.left == 0) = false := by simpa using hl
  by_cases hp : 0 < d.left
  · have e : d.tick = d.left - 1 := by unfold DS.tick; rw [if_pos hp]
    rw [e]
    clear h e
    have HS := Lib.hid (H.out.set 0 rfl 3 (.int .i64 (d.left - 1)))
    clear H
    generalize d.left = n at *
    go_enter Try.func45, Try.ntmps45
    go_wp2
    go_ret
    exact ⟨rfl, HS.out⟩
  · have e : d.tick = d.left := by unfold DS.tick; rw [if_neg hp]
    rw [e]
    clear h e
    have H' : Hid (Crew O w0 (parts b ⟨d.s, d.f, d.p, d.left, d.down⟩ vs vf vp) w) := H.out
    clear H
    generalize d.left = n at *
    go_enter Try.func45, Try.ntmps45
    go_wp2
    go_ret
    exact ⟨rfl, H'.out⟩

theorem infoW : (Try.prog.info? 81).map (fun i => (i.zero, i.size, i.bytes)) = some (some (.agg #[.int .i64 0, .string ⟨#[]⟩]), 2, 24) := by kernel_rfl
theorem infoS : (Try.prog.info? 9).map (fun i => (i.zero, i.size, i.bytes)) = some (some (.string ⟨#[]⟩), 1, 16) := by kernel_rfl

set_option maxHeartbeats 4000000 in
theorem rwrite_done (h : Crew O w0 (parts b d vs vf vp) w) (i : Nat) (t : ByteArray) (hd : d.down = false) (hi : i < d.s.length) (ht : t.size = 64) (hl : ¬ d.left = 0) (h2 : d.left ≤ 9223372036854775807) (hp : d.p.length < 100000) :
    Calls Try.prog 30 #[.pointer (some ⟨b, 0, none⟩), .int .i64 i, .string t] w fun e w' => e = .returned (.int .i64 0) ∧ ∃ vp', Crew O w0 (parts b { d with s := d.s.set i t, p := d.p ++ [(i, t)], left := d.tick } vs vf vp') w' := by
  obtain ⟨g, c, rfl⟩ := h.held 1 rfl (by omega)
  obtain ⟨c0, _, c2, c3, c4⟩ := h.cells5
  rw [hd] at c4
  have HC := Lib.hid (rcount_on h hl h2)
  have hiI : (i : Int) < d.s.length := by omega
  have HI := Lib.hid hi
  have hiN : ¬ (d.s.length : Int) ≤ i := by omega
  clear h hl h2 hd
  go_enter Try.func30, Try.ntmps30
  go_wp2_with fail
  refine HC.out.mono ?_
  rintro e w1 ⟨rfl, h1⟩
  obtain ⟨k0, _, k2, _, _⟩ := h1.cells5
  obtain ⟨ks, kf⟩ := h1.cell 1 rfl (strs_get d.s i HI.out)
  have hS := h1.put 1 rfl i (.string t)
  rw [strs_set] at hS
  have lb := h1.lt 0 rfl
  have lg : g < w1.heap.size := row_block ks
  have h2 : Crew O w0 (parts b { d with s := d.s.set i t, left := d.tick } (.slice (some ⟨g, 0, none⟩) d.s.length c) vf vp) (w1.setCell ⟨g, i, none⟩ (.string t)) := by
    show Crew O w0 [_, rowT 0 9 1 _ (d.s.set i t).length _, _, _] _
    rw [List.length_set]
    exact hS
  obtain ⟨j0, _, j2, _, _⟩ := h2.cells5
  have H2 := Lib.hid h2
  have H3 := Lib.hid (H2.out.below ((Below.refl _ (w1.setCell ⟨g, i, none⟩ (.string t))).alloc (Nat.le_refl _) (.cells #[.int .i64 (i : Int), .string t] 81)))
  have hsz : (w1.setCell ⟨g, i, none⟩ (.string t)).heap.size = w1.heap.size := by simp [World.setCell]
  clear h1 hS h2
  go_wp2_with (at_builtin; refine wpList_append_crew H3.out 3 rfl rfl (.tmp 41) (.tmp 45) 59 rfl (.agg #[.int .i64 0, .string ⟨#[]⟩]) 24 Try.underlying59 infoW rfl (by decide) rfl ⟨_, 0, none⟩ 1 1 [.int .i64 (i : Int), .string t] rfl rfl ?c1 ?c2 ?b1 ?b2 ?next)
  case c1 =>
    intro j u hj
    have e : (⟨w1.heap.size, 0, none⟩ : Addr).add j = ⟨(w1.setCell ⟨g, i, none⟩ (.string t)).heap.size, j, none⟩ := by rw [hsz]; unfold Addr.add; split <;> simp_all
    rw [e, World.cell?_alloc_new]
    simpa using hj
  case c2 => intro u hu; simp at hu; rcases hu with rfl | rfl <;> rfl
  case b1 => unfold maxLen; omega
  case b2 => omega
  case next =>
    intro v' w2 hF
    obtain ⟨a', c', rfl⟩ := hF.slice 3 rfl
    obtain ⟨y2, z2⟩ := hF.at 0 rfl (j := 2) rfl
    have HF := Lib.hid (hF.set 0 rfl 2 (.slice a' (d.p.length + 1) c'))
    clear hF
    go_wp2
    go_ret
    refine ⟨rfl, .slice a' (d.p.length + 1) c', ?_⟩
    show Crew O w0 [_, rowT 0 9 1 _ (d.s.set i t).length _, _, rowT 0 81 2 _ (d.p ++ [(i, t)]).length (flat (d.p ++ [(i, t)]))] _
    rw [List.length_set, List.length_append, flat_append]
    exact HF.out

set_option maxHeartbeats 2000000 in
theorem rwrite_off (h : Crew O w0 (parts b d vs vf vp) w) (i : Int) (t : ByteArray) (hd : d.down = true) :
    Calls Try.prog 30 #[.pointer (some ⟨b, 0, none⟩), .int .i64 i, .string t] w fun e w' => e = .returned (.int .i64 8) ∧ w = w' := by
  obtain ⟨_, _, _, _, c4⟩ := h.cells5
  rw [hd] at c4
  clear h hd
  go_enter Try.func30, Try.ntmps30
  go_wp2
  go_ret
  exact ⟨rfl, rfl⟩

set_option maxHeartbeats 2000000 in
theorem rwrite_range (h : Crew O w0 (parts b d vs vf vp) w) (i : Int) (t : ByteArray) (hd : d.down = false) (hi : i < 0 ∨ (d.s.length : Int) ≤ i) :
    Calls Try.prog 30 #[.pointer (some ⟨b, 0, none⟩), .int .i64 i, .string t] w fun e w' => e = .returned (.int .i64 11) ∧ w = w' := by
  obtain ⟨a, c, rfl⟩ := h.slice 1 rfl
  obtain ⟨c0, _, _, _, c4⟩ := h.cells5
  rw [hd] at c4
  clear h hd
  by_cases h0 : i < 0
  · clear hi
    go_enter Try.func30, Try.ntmps30
    go_wp2
    go_ret
    exact ⟨rfl, rfl⟩
  · have h1 : (d.s.length : Int) ≤ i := hi.resolve_left h0
    clear hi
    go_enter Try.func30, Try.ntmps30
    go_wp2
    go_ret
    exact ⟨rfl, rfl⟩

set_option maxHeartbeats 2000000 in
theorem rwrite_arg (h : Crew O w0 (parts b d vs vf vp) w) (i : Nat) (t : ByteArray) (hd : d.down = false) (hi : i < d.s.length) (ht : ¬ t.size = 64) :
    Calls Try.prog 30 #[.pointer (some ⟨b, 0, none⟩), .int .i64 i, .string t] w fun e w' => e = .returned (.int .i64 1) ∧ w = w' := by
  obtain ⟨a, c, rfl⟩ := h.slice 1 rfl
  obtain ⟨c0, _, _, _, c4⟩ := h.cells5
  rw [hd] at c4
  have hiN : ¬ (d.s.length : Int) ≤ i := by omega
  have htI : ((t.size : Int) != 64) = true := by simp; omega
  clear h hd ht
  go_enter Try.func30, Try.ntmps30
  go_wp2
  go_ret
  exact ⟨rfl, rfl⟩

set_option maxHeartbeats 2000000 in
theorem rwrite_dead (h : Crew O w0 (parts b d vs vf vp) w) (i : Nat) (t : ByteArray) (hd : d.down = false) (hi : i < d.s.length) (ht : t.size = 64) (hl : d.left = 0) :
    Calls Try.prog 30 #[.pointer (some ⟨b, 0, none⟩), .int .i64 i, .string t] w fun e w' => e = .returned (.int .i64 8) ∧ Crew O w0 (parts b { d with down := true } vs vf vp) w' := by
  have HC := Lib.hid (rcount_zero h hl)
  obtain ⟨a, c, rfl⟩ := h.slice 1 rfl
  obtain ⟨c0, _, _, _, c4⟩ := h.cells5
  rw [hd] at c4
  have hiN : ¬ (d.s.length : Int) ≤ i := by omega
  clear h hd hl
  go_enter Try.func30, Try.ntmps30
  go_wp2_with fail
  refine HC.out.mono ?_
  rintro e w1 ⟨rfl, h1⟩
  have H1 := Lib.hid h1
  clear h1 HC
  go_wp2
  go_ret
  exact ⟨rfl, H1.out⟩

end

theorem refT_open {O : Nat → Prop} {b : Nat} {d : DS} {w : World} (h : (refT b d).holds O w) : (Ok d ∧ d.left ≤ 9223372036854775807) ∧ ∃ vs vf vp, Crew O w (parts b d vs vf vp) w := by
  obtain ⟨h1, ⟨vs, vf, vp⟩, h2⟩ := h
  exact ⟨h1, vs, vf, vp, groupT_open h2⟩

theorem refT_shut {O : Nat → Prop} {b : Nat} {d : DS} {vs vf vp : Value} {w w' : World} (ok : Ok d) (hl : d.left ≤ 9223372036854775807) (h : Crew O w (parts b d vs vf vp) w') : Turns (refT b d) O w w' :=
  .and ⟨ok, hl⟩ (.ex (f := fun v : Value × Value × Value => groupT (parts b d v.1 v.2.1 v.2.2)) (vs, vf, vp) (groupT_shut h))

theorem RWrite {O : Nat → Prop} {b : Nat} {d : DS} {w : World} (h : (refT b d).holds O w) (hp : d.p.length < 100000) (at_ : Int) (t : ByteArray) :
    Calls Try.prog 30 #[.pointer (some ⟨b, 0, none⟩), .int .i64 at_, .string t] w fun e w' => e = .returned (.int .i64 (d.wr at_ t).1) ∧ Turns (refT b (d.wr at_ t).2) O w w' := by
  obtain ⟨⟨ok, hl⟩, vs, vf, vp, hc⟩ := refT_open h
  cases hd : d.down with
  | true =>
    rw [wr_off hd]
    refine (rwrite_off hc at_ t hd).mono ?_
    rintro e w' ⟨rfl, rfl⟩
    exact ⟨rfl, Turns.same h⟩
  | false =>
    by_cases hi : at_ < 0 ∨ (d.s.length : Int) ≤ at_
    · have hr : d.reach at_ = 11 := by
        unfold DS.reach
        rw [hd, if_neg (by decide), if_pos hi]
      have e : d.wr at_ t = (11, d) := by
        unfold DS.wr
        rw [hr, if_pos (by decide)]
      rw [e]
      refine (rwrite_range hc at_ t hd hi).mono ?_
      rintro e w' ⟨rfl, rfl⟩
      exact ⟨rfl, Turns.same h⟩
    · obtain ⟨i, rfl⟩ : ∃ i : Nat, at_ = i := ⟨at_.toNat, by omega⟩
      have hi' : i < d.s.length := by omega
      by_cases ht : t.size = 64
      · by_cases h0 : d.left = 0
        · have ok2 := ok.wr i t hp
          rw [wr_dead hd hi' ht h0] at ok2 ⊢
          refine (rwrite_dead hc i t hd hi' ht h0).mono ?_
          rintro e w' ⟨rfl, h1⟩
          exact ⟨rfl, refT_shut ok2 hl h1⟩
        · have ok2 := ok.wr i t hp
          have l2 := wr_left hl i t
          rw [wr_on hd hi' ht h0] at ok2 l2 ⊢
          refine (rwrite_done hc i t hd hi' ht h0 hl hp).mono ?_
          rintro e w' ⟨rfl, vp', h1⟩
          exact ⟨rfl, refT_shut ok2 l2 h1⟩
      · have e : d.wr i t = (1, d) := by
          unfold DS.wr
          rw [reach_ok hd hi', if_neg (by decide), if_pos ht]
        rw [e]
        refine (rwrite_arg hc i t hd hi' ht).mono ?_
        rintro e w' ⟨rfl, rfl⟩
        exact ⟨rfl, Turns.same h⟩

end Go.Proofs.Ytchbmchgdhmmmaa
