/-
  Whether files are the same, how many sectors spans have, and the chapter's example. Conditions: as each theorem states them.
-/
import Derived.Test.YteellffkjjllgaaQDrHelp
namespace Go.Proofs.Yteellffkjjllgaa
open Go.RowKit Go.Rc5 Go.Rc6 Go.Rc7

open Classical in
set_option maxRecDepth 100000 in
set_option maxHeartbeats 8000000 in
theorem files_same_any (A B : List Fl) (a b : Option Addr) (ca cb na nb : Nat) (w : World) (hA : FilesAt w a A) (hB : FilesAt w b B) (ha : A.length = na) (hb : B.length = nb) (hl : na ≤ 1000000) (hs : ∀ f ∈ A, f.spans.length ≤ 1000000) :
    Calls Try.prog 13 #[.slice a na ca, .slice b nb cb] w fun e w' => e = .returned (.bool (decide (A = B))) ∧ Below w.heap.size w w' := by
  have HA := Lib.hid (fun W (hb : Below w.heap.size w W) => FilesAt.below hA hb)
  have HBf := Lib.hid (fun W (hb : Below w.heap.size w W) => FilesAt.below hB hb)
  have HLA := Lib.hid ha
  have HLB := Lib.hid hb
  have HS := Lib.hid hs
  clear hA hB ha hb hs
  by_cases he : na = nb
  · subst he
    go_enter Try.func13, Try.ntmps13
    go_wp2
    go_loopw [5] (fun i wr => ∃ k : Nat, i = .int .i64 k ∧ k ≤ na ∧ Hid (∀ j, j < k → A.getD j default = B.getD j default) ∧ Below w.heap.size w wr) (fun i _ => (na - intOf i).toNat)
    case atStart => exact ⟨0, rfl, Nat.zero_le _, fun j hj => absurd hj (Nat.not_lt_zero _), Below.refl _ _⟩
    case round =>
      obtain ⟨k, rfl, hk, HAL, hBw⟩ := hrel
      have HB := Lib.hid hBw
      clear hBw
      by_cases hlt : k < na
      · have hltI : (k : Int) < na := by omega
        have hka : k < A.length := by rw [HLA.out]; exact hlt
        have hkb : k < B.length := by rw [HLB.out]; exact hlt
        obtain ⟨x, rfl, b0, b1, p, cp, b2, hsp⟩ := HA.out wr HB.out k hka
        obtain ⟨y, rfl, g0, g1, p', cp', g2, hsp'⟩ := HBf.out wr HB.out k hkb
        have c0 := fun q => after_cell b0 (row_block b0) q
        have c1 := fun q => after_cell b1 (row_block b1) q
        have c2 := fun q => after_cell b2 (row_block b2) q
        have d0 := fun q => after_cell g0 (row_block g0) q
        have d1 := fun q => after_cell g1 (row_block g1) q
        have d2 := fun q => after_cell g2 (row_block g2) q
        have HNE : Hid (A.getD k default ≠ B.getD k default → ¬ A = B) := fun h e => h (by rw [e])
        have HEQ : Hid (A.getD k default = B.getD k default → ∀ j, j < k + 1 → A.getD j default = B.getD j default) := fun h j hj => by
          by_cases e : j = k
          · subst e
            exact h
          · exact HAL.out j (by omega)
        have HSS := Lib.hid (HS.out _ (getD_mem (d := default) hka))
        generalize A.getD k default = f at *
        generalize B.getD k default = g at *
        have hq := eq_beq f.name g.name
        have FS := Lib.hid (fun q => after_of (W := wr) (fun W hW => same_any f.spans g.spans p p' cp cp' _ _ W (SpansAt.below hsp hW) (SpansAt.below hsp' hW) rfl rfl HSS.out) q)
        clear b0 b1 b2 g0 g1 g2 hsp hsp' hka hkb
        by_cases h0 : f.name = g.name
        · rw [decide_eq_true h0] at hq
          by_cases h1 : f.size = g.size
          · have h1' : (f.size == g.size) = true := beq_iff_eq.2 h1
            by_cases h2 : f.spans = g.spans
            · have hd : decide (f.spans = g.spans) = true := decide_eq_true h2
              rw [hd] at FS
              have HI2 := Lib.hid (HEQ.out (fl_ext h0 h1 h2))
              clear hd h2 h0 HNE HEQ
              go_wp2_with fail
              refine wp_region_after (by kernel_rfl) (by kernel_rfl) ?_
              repeat (go_big_quiet_step (first | with_reducible exact FS.out _))
              refine wpQuiet_nil ?_
              intro _ hw
              obtain ⟨q, rfl⟩ := hw
              have HP := Lib.hid (below_trans HB.out q.is)
              generalize q.to = wp at *
              go_wp2
              exact ⟨⟨k + 1, by go_num, by omega, HI2.out, HP.out⟩, by simp [intOf]; omega⟩
            · have hd : decide (f.spans = g.spans) = false := decide_eq_false h2
              rw [hd] at FS
              have HN := Lib.hid (HNE.out (fun e => h2 (by rw [e])))
              clear hd h2 h0 HNE HEQ
              go_wp2_with fail
              refine wp_region_after (by kernel_rfl) (by kernel_rfl) ?_
              repeat (go_big_quiet_step (first | with_reducible exact FS.out _))
              refine wpQuiet_nil ?_
              intro _ hw
              obtain ⟨q, rfl⟩ := hw
              have HP := Lib.hid (below_trans HB.out q.is)
              generalize q.to = wp at *
              go_wp2
              go_ret
              exact ⟨by rw [decide_eq_false HN.out]; rfl, HP.out⟩
          · have h1' : (f.size == g.size) = false := beq_eq_false_iff_ne.2 h1
            have h1'' : (f.size != g.size) = true := by rw [bne, h1']; rfl
            have HN := Lib.hid (HNE.out (fun e => h1 (by rw [e])))
            clear h0 HNE HEQ
            go_wp2_with fail
            refine wp_region_after (by kernel_rfl) (by kernel_rfl) ?_
            repeat (go_big_quiet_step (first | fail))
            refine wpQuiet_nil ?_
            intro _ hw
            obtain ⟨q, rfl⟩ := hw
            have HP := Lib.hid (below_trans HB.out q.is)
            generalize q.to = wp at *
            go_wp2
            go_ret
            exact ⟨by rw [decide_eq_false HN.out]; rfl, HP.out⟩
        · rw [decide_eq_false h0] at hq
          have hq' : (f.name.toList != g.name.toList) = true := by rw [bne, hq]; rfl
          have HN := Lib.hid (HNE.out (fun e => h0 (by rw [e])))
          clear h0 HNE HEQ
          go_wp2_with fail
          refine wp_region_after (by kernel_rfl) (by kernel_rfl) ?_
          repeat (go_big_quiet_step (first | fail))
          refine wpQuiet_nil ?_
          intro _ hw
          obtain ⟨q, rfl⟩ := hw
          have HP := Lib.hid (below_trans HB.out q.is)
          generalize q.to = wp at *
          go_wp2
          go_ret
          exact ⟨by rw [decide_eq_false HN.out]; rfl, HP.out⟩
      · obtain rfl : k = na := by omega
        have hltI : ¬ (k : Int) < k := by omega
        have HE := Lib.hid (files_same (A := A) (B := B) (by rw [HLA.out, HLB.out]) (by rw [HLA.out]; exact HAL.out))
        clear HAL
        go_wp2
        go_ret
        exact ⟨by rw [decide_eq_true HE.out]; rfl, HB.out⟩
  · have he' : ((na : Int) == nb) = false := beq_eq_false_iff_ne.2 (by omega)
    have HN : Hid (¬ A = B) := fun e => he (by rw [← HLA.out, ← HLB.out, e])
    clear HA HBf
    go_enter Try.func13, Try.ntmps13
    go_wp2
    go_ret
    exact ⟨by rw [decide_eq_false HN.out]; rfl, Below.refl _ _⟩

theorem sum_bound {S : List SpI} (h : ∀ s ∈ S, 0 ≤ s.2 ∧ s.2 < 65536) : 0 ≤ sumI S ∧ sumI S ≤ 65536 * (S.length : Int) := by
  induction S with
  | nil => exact ⟨by decide, by decide⟩
  | cons s r ih =>
    have h1 := h s List.mem_cons_self
    have h2 := ih (fun t ht => h t (List.mem_cons_of_mem _ ht))
    have e : sumI (s :: r) = s.2 + sumI r := by simp [sumI]
    rw [e, List.length_cons]
    omega

set_option maxRecDepth 100000 in
set_option maxHeartbeats 4000000 in
theorem sectors_any (S : List SpI) (a : Option Addr) (n c : Nat) (w : World) (h : SpansAt w a S) (hl : S.length = n) (hn : n ≤ 1000000) (hs : ∀ s ∈ S, 0 ≤ s.2 ∧ s.2 < 65536) :
    Calls Try.prog 24 #[.slice a n c] w fun e w' => e = .returned (.int .i64 (sumI S)) ∧ w' = w := by
  have HF := Lib.hid h
  have HL := Lib.hid hl
  have HS := Lib.hid hs
  clear h hl hs
  go_enter Try.func24, Try.ntmps24
  go_wp2
  go_loop [3, 4] (fun s i => ∃ (k : Nat) (z : Int), i = .int .i64 k ∧ s = .int .i64 z ∧ k ≤ n ∧ 0 ≤ z ∧ z ≤ 65536 * (k : Int) ∧ Hid (z = sumI (S.take k))) (fun _ i => (n - intOf i).toNat)
  case atStart => exact ⟨0, 0, rfl, rfl, Nat.zero_le _, by omega, by omega, rfl⟩
  case round =>
    obtain ⟨k, z, rfl, rfl, hk, hz0, hz1, HZ⟩ := hrel
    by_cases hlt : k < n
    · have hltI : (k : Int) < n := by omega
      have hkl : k < S.length := by rw [HL.out]; exact hlt
      obtain ⟨x, rfl, c0, c1⟩ := HF.out k hkl
      have hb := HS.out _ (getD_mem (d := (0, 0)) hkl)
      have HZ2 : Hid (z + (S.getD k (0, 0)).2 = sumI (S.take (k + 1))) := by
        unfold Hid
        rw [take_snoc S k (0, 0) hkl, sumI_snoc, HZ.out]
      generalize S.getD k (0, 0) = s at *
      obtain ⟨s1, s2⟩ := s
      dsimp only at c0 c1 hb HZ2
      clear hkl
      go_wp2
      exact ⟨⟨k + 1, z + s2, by go_num, by go_num, by omega, by omega, by omega, HZ2⟩, by simp [intOf]; omega⟩
    · obtain rfl : k = n := by omega
      have hltI : ¬ (k : Int) < k := by omega
      have h1 := HZ.out
      rw [List.take_of_length_le (Nat.le_of_eq HL.out)] at h1
      have HZ2 := Lib.hid h1
      clear h1 HZ
      go_wp2
      go_ret
      exact ⟨by rw [← HZ2.out]; rfl, rfl⟩

end Go.Proofs.Yteellffkjjllgaa
