/-
  LabelJoins: for every input the law answers true: two valid texts make a valid one with as many runes as both, and folding keeps names and lengths. Condition: the listed variables of Go's own library start as the program's text lays them (the card ties them).
-/
import Derived.Test.YtghnjdbamenkgaaDoorLaw
import Derived.Test.YtghnjdbamenkgaaDoorFold
namespace Go.Proofs.YtghnjdbamenkgaaDoor.labelJoins
open Go.ChangeShapes Go.WideShapes Go.ChangeAt Go.RowKit
open Go.ChangeMaps (open_string shut_string)

theorem mk_append (a b : List UInt8) : (⟨a.toArray⟩ ++ ⟨b.toArray⟩ : ByteArray) = ⟨(a ++ b).toArray⟩ := by
  apply ByteArray.ext; apply Array.ext'; simp [ByteArray.data_append]

theorem valid_append (l t : List UInt8) (h1 : Rc1.valid l = true) (h2 : Rc1.valid t = true) : Rc1.valid (l ++ t) = true := by
  unfold Rc1.valid at *
  have : Rc1.cut (l ++ t) = Rc1.cut l ++ Rc1.cut t := Rc1.cut_append l t (by unfold Rc1.valid; exact h1)
  rw [this, List.all_append, h1, h2]; rfl

theorem count_append (l t : List UInt8) (h1 : Rc1.valid l = true) : Rc1.count (l ++ t) = Rc1.count l + Rc1.count t := by
  unfold Rc1.count; rw [Rc1.cut_append l t h1, List.length_append]

set_option maxHeartbeats 2000000 in
set_option maxRecDepth 100000 in
theorem walk (a0 : ByteArray) (_w0 : a0.size ≤ maxLen) (a1 : ByteArray) (_w1 : a1.size ≤ maxLen) (w : World) (hT : Tab w) :
    Calls Tryd.prog 8 #[.string a0, .string a1] w fun e w' => e = .returned (.bool true) ∧ Below w.heap.size w w' := by
  unfold maxLen at *
  have HSh := Lib.hid (relT shown_any w hT)
  have HB0 := Below.refl w.heap.size w
  clear hT
  by_cases hs : a0.size ≤ 500
  · by_cases hs1 : a1.size ≤ 500
    · have hst : (a0 ++ a1).size ≤ 1000 := by simp; omega
      have hVs := rel (fun w => Valid_any a0 (by omega) w) w
      have hVt := rel (fun w => Valid_any a1 (by omega) w) w
      have hVj := rel (fun w => Valid_any (a0 ++ a1) (by omega) w) w
      have hCs := rel (fun w => Count_any a0 (by omega) w) w
      have hCt := rel (fun w => Count_any a1 (by omega) w) w
      have hCj := rel (fun w => Count_any (a0 ++ a1) (by omega) w) w
      have hFs := rel (fun w => Fold_any a0 (by omega) w) w
      have hFt := rel (fun w => Fold_any a1 (by omega) w) w
      have hFj := rel (fun w => Fold_any (a0 ++ a1) (by omega) w) w
      have hRs := rel (fun w => Right_any a0 (by omega) w) w
      rw [append_list, Rc1.fold_append, ← mk_append] at hFj
      have hFz : (⟨(Rc1.fold a0.data.toList).toArray⟩ : ByteArray).size = a0.size := by rw [size_mk, Rc1.fold_length, len_data]
      have hGz : (⟨(Rc1.fold a1.data.toList).toArray⟩ : ByteArray).size = a1.size := by rw [size_mk, Rc1.fold_length, len_data]
      obtain ⟨f, hf⟩ : ∃ f : ByteArray, f = ⟨(Rc1.fold a0.data.toList).toArray⟩ := ⟨_, rfl⟩
      obtain ⟨g, hg⟩ : ∃ g : ByteArray, g = ⟨(Rc1.fold a1.data.toList).toArray⟩ := ⟨_, rfl⟩
      rw [← hf] at hFs hFj hFz
      rw [← hg] at hFt hFj hGz
      have hfl : f.data.toList = Rc1.fold a0.data.toList := by rw [hf]
      have hFf := rel (fun w => Fold_any f (by omega) w) w
      have hRf := rel (fun w => Right_any f (by omega) w) w
      have hCf := rel (fun w => Count_any f (by omega) w) w
      rw [hfl, Rc1.fold_fold, ← hf] at hFf
      rw [hfl, Rc1.right_fold] at hRf
      rw [hfl, Rc1.count_fold] at hCf
      have hcs : Rc1.count a0.data.toList ≤ a0.size := by have := Rc1.cut_len_le a0.data.toList; rw [len_data] at this; exact this
      have hct : Rc1.count a1.data.toList ≤ a1.size := by have := Rc1.cut_len_le a1.data.toList; rw [len_data] at this; exact this
      have hcj := count_append a0.data.toList a1.data.toList
      have hvj := valid_append a0.data.toList a1.data.toList
      rw [append_list] at hVj hCj
      generalize Rc1.count a0.data.toList = cs at *
      generalize Rc1.count a1.data.toList = ct at *
      generalize Rc1.right a0.data.toList = r at *
      have HFs := Lib.hid hFs; have HFt := Lib.hid hFt; have HFj := Lib.hid hFj; have HFf := Lib.hid hFf; have HCs := Lib.hid hCs; have HCt := Lib.hid hCt; have HCf := Lib.hid hCf; have HRs := Lib.hid hRs; have HRf := Lib.hid hRf
      have hfs : f.size ≤ 500 := by omega
      have hgs : g.size ≤ 500 := by omega
      have e1 : ((f.size : Int) == a0.size) = true := by rw [beq_iff_eq]; omega
      have e1' : (f.size == a0.size) = true := by rw [beq_iff_eq]; omega
      clear hFs hFt hFj hFf hCs hCt hCf hRs hRf hfl hf hg hFz hGz
      cases v0 : Rc1.valid a0.data.toList with
      | false =>
        rw [v0] at hVs
        have HVs := Lib.hid hVs
        clear hVs hVt hVj hCj hcj hvj v0
        cases r
        all_goals
          go_enter Tryd.func8, Tryd.ntmps8
          go_wp2_with (first | (go_at_call 11; ((with_reducible refine (HSh.out _ (by assumption)).mono ?_)); rintro e w1 ⟨rfl, hbw⟩) | (go_at_call 12; ((with_reducible refine (HVs.out _ (by assumption)).mono ?_)); rintro e w1 ⟨rfl, hbw⟩) | (go_at_call 20; ((with_reducible refine (HFs.out _ (by assumption)).mono ?_)); rintro e w1 ⟨rfl, hbw⟩) | (go_at_call 20; ((with_reducible refine (HFf.out _ (by assumption)).mono ?_)); rintro e w1 ⟨rfl, hbw⟩) | (go_at_call 18; ((with_reducible refine (HRf.out _ (by assumption)).mono ?_)); rintro e w1 ⟨rfl, hbw⟩) | (go_at_call 18; ((with_reducible refine (HRs.out _ (by assumption)).mono ?_)); rintro e w1 ⟨rfl, hbw⟩) | (go_at_call 14; ((with_reducible refine (HCf.out _ (by assumption)).mono ?_)); rintro e w1 ⟨rfl, hbw⟩) | (go_at_call 14; ((with_reducible refine (HCs.out _ (by assumption)).mono ?_)); rintro e w1 ⟨rfl, hbw⟩))
          go_ret
          exact ⟨rfl, hbw⟩
      | true =>
        cases v1 : Rc1.valid a1.data.toList with
        | false =>
          rw [v0] at hVs
          rw [v1] at hVt
          have HVs := Lib.hid hVs; have HVt := Lib.hid hVt
          clear hVs hVt hVj hCj hcj hvj v0 v1
          cases r
          all_goals
            go_enter Tryd.func8, Tryd.ntmps8
            go_wp2_with (first | (go_at_call 11; ((with_reducible refine (HSh.out _ (by assumption)).mono ?_)); rintro e w1 ⟨rfl, hbw⟩) | (go_at_call 12; ((with_reducible refine (HVs.out _ (by assumption)).mono ?_)); rintro e w1 ⟨rfl, hbw⟩) | (go_at_call 12; ((with_reducible refine (HVt.out _ (by assumption)).mono ?_)); rintro e w1 ⟨rfl, hbw⟩) | (go_at_call 20; ((with_reducible refine (HFs.out _ (by assumption)).mono ?_)); rintro e w1 ⟨rfl, hbw⟩) | (go_at_call 20; ((with_reducible refine (HFf.out _ (by assumption)).mono ?_)); rintro e w1 ⟨rfl, hbw⟩) | (go_at_call 18; ((with_reducible refine (HRf.out _ (by assumption)).mono ?_)); rintro e w1 ⟨rfl, hbw⟩) | (go_at_call 18; ((with_reducible refine (HRs.out _ (by assumption)).mono ?_)); rintro e w1 ⟨rfl, hbw⟩) | (go_at_call 14; ((with_reducible refine (HCf.out _ (by assumption)).mono ?_)); rintro e w1 ⟨rfl, hbw⟩) | (go_at_call 14; ((with_reducible refine (HCs.out _ (by assumption)).mono ?_)); rintro e w1 ⟨rfl, hbw⟩))
            go_ret
            exact ⟨rfl, hbw⟩
        | true =>
          rw [hvj v0 v1] at hVj
          rw [hcj v0] at hCj
          rw [v0] at hVs
          rw [v1] at hVt
          have HVs := Lib.hid hVs; have HVt := Lib.hid hVt; have HVj := Lib.hid hVj; have HCj := Lib.hid hCj
          clear hVs hVt hVj hCj hcj hvj v0 v1
          cases r
          all_goals
            go_enter Tryd.func8, Tryd.ntmps8
            go_wp2_with (first | (go_at_call 11; ((with_reducible refine (HSh.out _ (by assumption)).mono ?_)); rintro e w1 ⟨rfl, hbw⟩) | (go_at_call 12; ((with_reducible refine (HVs.out _ (by assumption)).mono ?_)); rintro e w1 ⟨rfl, hbw⟩) | (go_at_call 12; ((with_reducible refine (HVt.out _ (by assumption)).mono ?_)); rintro e w1 ⟨rfl, hbw⟩) | (go_at_call 12; ((with_reducible refine (HVj.out _ (by assumption)).mono ?_)); rintro e w1 ⟨rfl, hbw⟩) | (go_at_call 14; ((with_reducible refine (HCj.out _ (by assumption)).mono ?_)); rintro e w1 ⟨rfl, hbw⟩) | (go_at_call 14; ((with_reducible refine (HCf.out _ (by assumption)).mono ?_)); rintro e w1 ⟨rfl, hbw⟩) | (go_at_call 14; ((with_reducible refine (HCs.out _ (by assumption)).mono ?_)); rintro e w1 ⟨rfl, hbw⟩) | (go_at_call 14; ((with_reducible refine (HCt.out _ (by assumption)).mono ?_)); rintro e w1 ⟨rfl, hbw⟩) | (go_at_call 20; ((with_reducible refine (HFj.out _ (by assumption)).mono ?_)); rintro e w1 ⟨rfl, hbw⟩) | (go_at_call 20; ((with_reducible refine (HFs.out _ (by assumption)).mono ?_)); rintro e w1 ⟨rfl, hbw⟩) | (go_at_call 20; ((with_reducible refine (HFt.out _ (by assumption)).mono ?_)); rintro e w1 ⟨rfl, hbw⟩) | (go_at_call 20; ((with_reducible refine (HFf.out _ (by assumption)).mono ?_)); rintro e w1 ⟨rfl, hbw⟩) | (go_at_call 18; ((with_reducible refine (HRf.out _ (by assumption)).mono ?_)); rintro e w1 ⟨rfl, hbw⟩) | (go_at_call 18; ((with_reducible refine (HRs.out _ (by assumption)).mono ?_)); rintro e w1 ⟨rfl, hbw⟩))
            go_ret
            exact ⟨rfl, hbw⟩
    · have hs' : (500 : Int) < a1.size := by omega
      have hs2 : ¬ (500 : Int) < a0.size := by omega
      go_enter Tryd.func8, Tryd.ntmps8
      go_wp2_with ((go_at_call 11; ((with_reducible refine (HSh.out _ (by assumption)).mono ?_)); rintro e w1 ⟨rfl, hbw⟩))
      go_ret
      exact ⟨rfl, hbw⟩
  · have hs' : (500 : Int) < a0.size := by omega
    go_enter Tryd.func8, Tryd.ntmps8
    go_wp2_with ((go_at_call 11; ((with_reducible refine (HSh.out _ (by assumption)).mono ?_)); rintro e w1 ⟨rfl, hbw⟩))
    go_ret
    exact ⟨rfl, hbw⟩

set_option maxRecDepth 100000 in
theorem lifted (os : Os) (started : os.Started) (H : Type) (enc : TypeId × Value → H) :
    ReturnsInHanded {} Tryd.checked os 8 .any (fun w args => (Rows.labelJoinsSpec.pre enc Tryd.prog Tryd.f8 [] false w args ∧ laidMetH Tryd.prog laid3 w) ∧ sizedMet enc Tryd.prog Tryd.f8 (OpenSpec.ofChange Rows.labelJoinsSpec) false w args)
      (Rows.labelJoinsSpec.post enc Tryd.prog Tryd.f8 false true false false) := by
  refine returnsInHanded_of_change_and (C := Tryd.checked) (X := fun w _ => laidMetH Tryd.prog laid3 w) (fun _ _ _ hh h => h.of_heap hh) own started (by kernel_rfl) Tryd.func8
    (ChangeSpec.witness_shaped (enc := enc) (C := Tryd.checked) (os := os) (X := fun w _ => laidMetH Tryd.prog laid3 w) false (World.doorLaid Tryd.prog 400 os) #[.string ByteArray.empty, .string ByteArray.empty] 8 rfl (World.shaped_of_RefB (by kernel_rfl) (by kernel_rfl)) (by kernel_rfl) (by kernel_rfl) (by kernel_rfl) (door_met os _)) ?_
  intro W base args ds gs before hval0 hW _ _ hL _
  have hval : ∀ (j : Nat) t v, Tryd.f8.params[j]? = some t → args[j]? = some v → Value.okWide Tryd.prog W .any base t v := hval0
  have hW' := hW
  obtain ⟨p, q, hA0, hV, rfl, hfz, hnd⟩ := hW
  have hA : DataW.TrodAll enc Tryd.prog W 0 (fun _ => true) true Tryd.f8.params.toList args.toList ds p := hA0
  rw [Tryd.params8] at hA hval
  obtain ⟨v0, vs0, d0, ds0, p0, q0, hargs, rfl, rfl, h0, r0⟩ := trodAll_cons hA
  obtain ⟨v1, vs1, d1, ds1, p1, q1, rfl, rfl, rfl, h1, r1⟩ := trodAll_cons r0
  obtain ⟨rfl, rfl, rfl⟩ := trodAll_nil r1
  obtain rfl : args = #[v0, v1] := by cases args; simp_all
  obtain ⟨rfl, rfl⟩ := trodVars_none hV
  obtain ⟨a0, rfl, rfl, rfl, w0⟩ := open_string Tryd.underlying9 (hval 0 9 v0 rfl rfl) h0
  obtain ⟨a1, rfl, rfl, rfl, w1⟩ := open_string Tryd.underlying9 (hval 1 9 v1 rfl rfl) h1
  clear hA0 hval0
  simp only [List.append_nil] at hW'
  refine (walk a0 w0 a1 w1 W (of_laid hL)).mono fun e W' ⟨he, hg⟩ => ?_
  subst he
  exact ⟨_, rfl, _, _, _, [], _, [], hW', trodAll_mk1 (shut_bool Tryd.underlying4 _), (trodAll_cons_mk (shut_string Tryd.underlying9 w0) (trodAll_cons_mk (shut_string Tryd.underlying9 w1) trodAll_mk0)), rfl, hg.frame _, fun h => by cases h⟩

theorem over : Rows.labelJoinsRow.holds Tryd.pinned (OpenSpec.ofChange Rows.labelJoinsSpec) :=
  OpenClaim.holds_of_wide 8 Tryd.f8 rfl rfl rfl rfl rfl rfl rfl ⟨rfl, rfl, rfl, rfl, rfl⟩ rfl rfl rfl rfl rfl (by kernel_rfl) Tryd.func8 (by kernel_rfl)
    (of_decide_eq_true (by kernel_rfl)) (by unfold Func.isWrapper; first | (rw [if_pos (by decide +kernel)]; kernel_rfl) | (rw [if_neg (by decide +kernel)]; exact ⟨rfl, rfl⟩))
    (fun os started H enc _ => lifted os started H enc)

theorem holds : Rows.LabelJoinsCardSaid :=
  Claim7.holds_tied_plain_at .later [] [.data, .data, .data] true Rows.labelJoinsCard.stood.harness Rows.labelJoinsCard.stood.looks
    over (fun _ h => by cases h) (by kernel_rfl) (fun _ h => by cases h) labelJoins_row_tie rfl ⟨rfl, rfl⟩ (by kernel_rfl) rfl
    (fun f fn hf hfn => by
      obtain rfl : f = 8 := Option.some.inj (hf.symm.trans (by kernel_rfl))
      obtain rfl : fn = Tryd.f8 := (Option.some.inj (Tryd.func8.symm.trans hfn)).symm
      exact ⟨by kernel_rfl, fun j t ht => by
        rw [Tryd.params8] at ht
        have hm : t ∈ [9, 9] := by simpa using Array.mem_of_getElem? ht
        have hall : ([9, 9].all fun u => !Tryd.prog.wantsStandIn u) = true := by kernel_rfl
        exact (show Tryd.prog.wantsStandIn t = false by simpa using List.all_eq_true.1 hall t hm)⟩)
    (by kernel_rfl)

end Go.Proofs.YtghnjdbamenkgaaDoor.labelJoins
