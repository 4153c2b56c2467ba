/-
  Whether a row of files is a directory, as the document has it. Conditions: as each theorem states them.
-/
import Derived.Test.YteellffkjjllgaaGreatQDrShown
namespace Go.Rc7
open Go.Rc5

theorem map_take_name (L : List Fl) (k : Nat) : (L.map (·.name)).take k = (L.take k).map (·.name) := by rw [List.map_take]

end Go.Rc7
namespace Go.Proofs.YteellffkjjllgaaGreat
open Go.RowKit Go.Rc5 Go.Rc6 Go.Rc7

open Classical in
set_option maxRecDepth 100000 in
set_option maxHeartbeats 8000000 in
theorem Is_any (L : List Fl) (a : Option Addr) (n c : Nat) (w : World) (h : FilesAt w a L) (hl : L.length = n) (hn : n ≤ 1000) (hs : ∀ f ∈ L, f.name.size ≤ 140737488355328 ∧ f.spans.length ≤ 100000) :
    Calls Tryz.prog 22 #[.slice a n c] w fun e w' => e = .returned (.bool (decide (Dir L))) ∧ Below w.heap.size w w' := by
  have HF := Lib.hid (fun W (hW : Below w.heap.size w W) => FilesAt.below h hW)
  have HL := Lib.hid hl
  have HS := Lib.hid hs
  clear h hl hs
  go_enter Tryz.func22, Tryz.ntmps22
  go_wp2
  go_loopw [3] (fun i wr => ∃ k : Nat, i = .int .i64 k ∧ k ≤ n ∧ Hid ((∀ j, j < k → Well (L.getD j default)) ∧ Rises ((L.map (·.name)).take k)) ∧ Hid (Below w.heap.size w wr)) (fun i _ => (n - intOf i).toNat)
  case atStart => exact ⟨0, rfl, Nat.zero_le _, ⟨fun j hj => absurd hj (Nat.not_lt_zero _), rises_one (Nat.zero_le _)⟩, Below.refl _ _⟩
  case round =>
    obtain ⟨k, rfl, hk, HI, HB⟩ := hrel
    by_cases hlt : k < n
    · have hltI : (k : Int) < n := by omega
      have hkl : k < L.length := by rw [HL.out]; exact hlt
      have hml : (L.map (·.name)).length = n := by rw [List.length_map, HL.out]
      obtain ⟨x, rfl, b0, b1, p, cp, b2, hsp⟩ := HF.out wr HB.out k hkl
      have hss := HS.out _ (getD_mem (d := default) hkl)
      have HWl := Lib.hid (wellR_any (L.getD k default) hss.1 hss.2 p cp wr hsp)
      have HX := Lib.hid (fun W (hW : Below w.heap.size w W) => HF.out W hW k hkl)
      have HNW : Hid (wellB (L.getD k default) = false → ¬ Dir L) := fun h hd => by
        have := (wellB_iff _).2 (hd.well _ (getD_mem (d := default) hkl))
        rw [h] at this
        cases this
      have HYW : Hid (wellB (L.getD k default) = true → ∀ j, j < k + 1 → Well (L.getD j default)) := fun h j hj => by
        by_cases e : j = k
        · subst e
          exact (wellB_iff _).1 h
        · exact HI.out.1 j (by omega)
      cases hw : wellB (L.getD k default) with
      | false =>
        have HN := Lib.hid (HNW.out hw)
        rw [hw] at HWl
        generalize L.getD k default = f at b0 b1 b2 HWl
        clear hw HYW HNW hss hkl hml HX hsp
        go_wp2_with fail
        refine HWl.out.mono ?_
        rintro e w1 ⟨rfl, hb1⟩
        replace HB := Lib.hid (below_trans HB.out hb1)
        clear hb1 b0 b1 b2 HWl
        go_wp2_with fail
        refine wp_region_after (by kernel_rfl) (by kernel_rfl) ?_
        repeat (go_big_quiet_step (first | fail))
        refine wpQuiet_nil ?_
        intro _ hw
        obtain ⟨q, rfl⟩ := hw
        replace HB := Lib.hid (below_trans HB.out q.is)
        generalize q.to = wp at *
        go_wp2
        go_ret
        exact ⟨by rw [decide_eq_false HN.out]; rfl, HB.out⟩
      | true =>
        have HW2 := Lib.hid (HYW.out hw)
        rw [hw] at HWl
        by_cases h0 : k = 0
        · subst h0
          have HI2 : Hid ((∀ j, j < 0 + 1 → Well (L.getD j default)) ∧ Rises ((L.map (·.name)).take (0 + 1))) := ⟨HW2.out, rises_one (by omega)⟩
          generalize L.getD 0 default = f at b0 b1 b2 HWl
          have b0' : wr.cell? x = some (.string f.name) := b0
          have b1' : wr.cell? ⟨x.block, x.off + 1, none⟩ = some (.int .i64 f.size) := b1
          have b2' : wr.cell? ⟨x.block, x.off + 2, none⟩ = some (.slice p f.spans.length cp) := b2
          clear hw HYW HNW hss hkl hml HX hsp
          go_wp2_with fail
          refine HWl.out.mono ?_
          rintro e w1 ⟨rfl, hb1⟩
          replace HB := Lib.hid (below_trans HB.out hb1)
          clear hb1 b0 b1 b2 HWl b0' b1' b2'
          go_wp2_with fail
          refine wp_region_after (by kernel_rfl) (by kernel_rfl) ?_
          repeat (go_big_quiet_step (first | fail))
          refine wpQuiet_nil ?_
          intro _ hw
          obtain ⟨q, rfl⟩ := hw
          replace HB := Lib.hid (below_trans HB.out q.is)
          generalize q.to = wp at *
          go_wp2
          exact ⟨⟨1, by go_num, by omega, HI2, HB⟩, by simp [intOf]; omega⟩
        · obtain ⟨q0, hq0⟩ : ∃ q, k = q + 1 := ⟨k - 1, by omega⟩
          have HX2 := Lib.hid (fun W (hW : Below w.heap.size w W) => HF.out W hW q0 (by omega))
          have hle : ∀ W, (binOp .leq 9 (.string (L.getD k default).name) (.string (L.getD q0 default).name)).run Tryz.prog W = .ok (.bool (!lt (L.getD q0 default).name (L.getD k default).name)) W := fun W => by
            rw [← leq_iff]
            simp [binOp, Op.stringOp]
          have hkq : k - 1 = q0 := by omega
          have HRN : Hid (lt (L.getD q0 default).name (L.getD k default).name = false → ¬ Dir L) := fun h hd => by
            refine rises_not (k := k) (by rw [hml]; exact hlt) (by omega) ?_ hd.rises
            rw [hkq, names_at (by omega), names_at hkl]
            exact h
          have HRY : Hid (lt (L.getD q0 default).name (L.getD k default).name = true → Rises ((L.map (·.name)).take (k + 1))) := fun h => by
            refine rises_take (by rw [hml]; exact hlt) (by omega) HI.out.2 ?_
            rw [hkq, names_at (by omega), names_at hkl]
            exact h
          have e1 : (k : Int) - 1 = (q0 : Int) := by omega
          have e2 : (0 : Int) < (k : Int) := by omega
          have e2n : 0 < k := by omega
          have e2d : decide (0 < k) = true := decide_eq_true e2n
          have e4 : (q0 : Int) < n := by omega
          have e5 : q0 < n := by omega
          have e6 : IntKind.i64.wrap ((k : Int) - 1) = (q0 : Int) := by rw [e1]; exact IntWalk.i64_in _ (by omega)
          have HKQ := Lib.hid hq0
          generalize L.getD k default = f at *
          generalize L.getD q0 default = f' at *
          clear hw HYW HNW hss hkl hml hsp h0 hq0 hkq
          go_wp2_with fail
          refine HWl.out.mono ?_
          rintro e w1 ⟨rfl, hb1⟩
          replace HB := Lib.hid (below_trans HB.out hb1)
          clear hb1 b0 b1 b2 HWl
          obtain ⟨y, hy, g0, _⟩ := HX.out _ HB.out
          cases hy
          obtain ⟨y', hy', g1, _⟩ := HX2.out _ HB.out
          cases hy'
          have d0 := fun q => after_cell g0 (row_block g0) q
          have d1 := fun q => after_cell g1 (row_block g1) q
          cases hb : lt f'.name f.name with
          | true =>
            have HI2 : Hid ((∀ j, j < k + 1 → Well (L.getD j default)) ∧ Rises ((L.map (·.name)).take (k + 1))) := ⟨HW2.out, HRY.out hb⟩
            rw [hb] at hle
            clear hb HRN HRY g0 g1 HX HX2
            go_wp2_with fail
            refine wp_region_after (by kernel_rfl) (by kernel_rfl) ?_
            repeat (go_big_quiet_step (first | fail))
            refine wpQuiet_nil ?_
            intro _ hw
            obtain ⟨q, rfl⟩ := hw
            replace HB := Lib.hid (below_trans HB.out q.is)
            generalize q.to = wp at *
            go_wp2
            exact ⟨⟨k + 1, by go_num, by omega, HI2, HB⟩, by simp [intOf]; omega⟩
          | false =>
            have HN := Lib.hid (HRN.out hb)
            rw [hb] at hle
            clear hb HRN HRY g0 g1 HX HX2
            go_wp2_with fail
            refine wp_region_after (by kernel_rfl) (by kernel_rfl) ?_
            repeat (go_big_quiet_step (first | fail))
            refine wpQuiet_nil ?_
            intro _ hw
            obtain ⟨q, rfl⟩ := hw
            replace HB := Lib.hid (below_trans HB.out q.is)
            generalize q.to = wp at *
            go_wp2
            go_ret
            exact ⟨by rw [decide_eq_false HN.out]; rfl, HB.out⟩
    · obtain rfl : k = n := by omega
      have hltI : ¬ (k : Int) < k := by omega
      have hr := HI.out.2
      rw [List.take_of_length_le (by rw [List.length_map, HL.out]; exact Nat.le_refl _)] at hr
      by_cases h1 : k ≤ 120
      · have h1' : (k : Int) ≤ 120 := by omega
        have HD : Hid (Dir L) := ⟨by rw [HL.out]; exact h1, hr, fun f hf => by
          obtain ⟨j, hj, rfl⟩ := mem_getD default hf
          exact HI.out.1 j (by rw [← HL.out]; exact hj)⟩
        clear hr
        go_wp2
        go_ret
        exact ⟨by rw [decide_eq_true HD.out]; rfl, HB.out⟩
      · have h1' : ¬ (k : Int) ≤ 120 := by omega
        have HD : Hid (¬ Dir L) := fun hd => h1 (by rw [← HL.out]; exact hd.many)
        clear hr
        go_wp2
        go_ret
        exact ⟨by rw [decide_eq_false HD.out]; rfl, HB.out⟩

end Go.Proofs.YteellffkjjllgaaGreat
