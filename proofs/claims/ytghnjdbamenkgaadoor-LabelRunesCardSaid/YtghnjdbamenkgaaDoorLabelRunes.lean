/-
  LabelRunes: for every input the law answers true: whether a text is valid, how many runes it has, and its first ones are as the document says, by the bytes of UTF-8. Condition: the listed variables of Go's own library start as the program's text lays them (the card ties them).
-/
import Derived.Test.YtghnjdbamenkgaaDoorLaw
import Derived.Test.YtghnjdbamenkgaaDoorRef
namespace Go.Proofs.YtghnjdbamenkgaaDoor.labelRunes
open Go.ChangeShapes Go.WideShapes Go.ChangeAt Go.RowKit
open Go.ChangeMaps (open_string shut_string)

set_option maxHeartbeats 1000000 in
theorem walk (a0 : ByteArray) (_w0 : a0.size ≤ maxLen) (a1 : Int) (_w1 : (Lit.int .i64 a1).wf = true) (w : World) (hT : Tab w) :
    Calls Tryd.prog 3 #[.string a0, .int .i64 a1] w fun e w' => e = .returned (.bool true) ∧ Below w.heap.size w w' := by
  unfold maxLen at _w0
  have HSh := Lib.hid (relT shown_any w hT)
  have HB0 := Below.refl w.heap.size w
  clear hT
  by_cases hs : a0.size ≤ 1000
  · have hV := rel (fun w => Valid_any a0 (by omega) w) w
    have hC := rel (fun w => Count_any a0 (by omega) w) w
    have hF := rel (fun w => First_any a0 a1 (by omega) w) w
    have hRV := rel (fun w => rValid_any a0 (by omega) w) w
    have hRC := rel (fun w => rCount_any a0 (by omega) w) w
    have hRF := rel (fun w => rFirst_any a0 a1 (by omega) w) w
    generalize Rc1.count a0.data.toList = c at hC hRC
    generalize (⟨(Rc1.first a0.data.toList a1.toNat).toArray⟩ : ByteArray) = x at hF hRF
    have HC := Lib.hid hC; have HRC := Lib.hid hRC; have HF := Lib.hid hF; have HRF := Lib.hid hRF
    clear hC hRC hF hRF
    cases hv : Rc1.valid a0.data.toList
    all_goals
      rw [hv] at hV hRV
      have HV := Lib.hid hV; have HRV := Lib.hid hRV
      clear hV hRV hv
      go_enter Tryd.func3, Tryd.ntmps3
      go_wp2_with (first | (go_at_call 11; ((with_reducible refine (HSh.out _ (by assumption)).mono ?_)); rintro e w1 ⟨rfl, hbw⟩) | (go_at_call 12; ((with_reducible refine (HV.out _ (by assumption)).mono ?_)); rintro e w1 ⟨rfl, hbw⟩) | (go_at_call 13; ((with_reducible refine (HRV.out _ (by assumption)).mono ?_)); rintro e w1 ⟨rfl, hbw⟩) | (go_at_call 14; ((with_reducible refine (HC.out _ (by assumption)).mono ?_)); rintro e w1 ⟨rfl, hbw⟩) | (go_at_call 15; ((with_reducible refine (HRC.out _ (by assumption)).mono ?_)); rintro e w1 ⟨rfl, hbw⟩) | (go_at_call 16; ((with_reducible refine (HF.out _ (by assumption)).mono ?_)); rintro e w1 ⟨rfl, hbw⟩) | (go_at_call 17; ((with_reducible refine (HRF.out _ (by assumption)).mono ?_)); rintro e w1 ⟨rfl, hbw⟩))
      go_ret
      exact ⟨rfl, hbw⟩
  · have hs' : (1000 : Int) < a0.size := by omega
    go_enter Tryd.func3, Tryd.ntmps3
    go_wp2_with (go_at_call 11; ((with_reducible refine (HSh.out _ (by assumption)).mono ?_)); rintro e w1 ⟨rfl, hbw⟩)
    go_ret
    exact ⟨rfl, hbw⟩

set_option maxRecDepth 100000 in
theorem lifted (os : Os) (started : os.Started) (H : Type) (enc : TypeId × Value → H) :
    ReturnsInHanded {} Tryd.checked os 3 .any (fun w args => (Rows.labelRunesSpec.pre enc Tryd.prog Tryd.f3 [] false w args ∧ laidMetH Tryd.prog laid3 w) ∧ sizedMet enc Tryd.prog Tryd.f3 (OpenSpec.ofChange Rows.labelRunesSpec) false w args)
      (Rows.labelRunesSpec.post enc Tryd.prog Tryd.f3 false true false false) := by
  refine returnsInHanded_of_change_and (C := Tryd.checked) (X := fun w _ => laidMetH Tryd.prog laid3 w) (fun _ _ _ hh h => h.of_heap hh) own started (by kernel_rfl) Tryd.func3
    (ChangeSpec.witness_shaped (enc := enc) (C := Tryd.checked) (os := os) (X := fun w _ => laidMetH Tryd.prog laid3 w) false (World.doorLaid Tryd.prog 400 os) #[.string ByteArray.empty, .int .i64 0] 8 rfl (World.shaped_of_RefB (by kernel_rfl) (by kernel_rfl)) (by kernel_rfl) (by kernel_rfl) (by kernel_rfl) (door_met os _)) ?_
  intro W base args ds gs before hval0 hW _ _ hL _
  have hval : ∀ (j : Nat) t v, Tryd.f3.params[j]? = some t → args[j]? = some v → Value.okWide Tryd.prog W .any base t v := hval0
  have hW' := hW
  obtain ⟨p, q, hA0, hV, rfl, hfz, hnd⟩ := hW
  have hA : DataW.TrodAll enc Tryd.prog W 0 (fun _ => true) true Tryd.f3.params.toList args.toList ds p := hA0
  rw [Tryd.params3] at hA hval
  obtain ⟨v0, vs0, d0, ds0, p0, q0, hargs, rfl, rfl, h0, r0⟩ := trodAll_cons hA
  obtain ⟨v1, vs1, d1, ds1, p1, q1, rfl, rfl, rfl, h1, r1⟩ := trodAll_cons r0
  obtain ⟨rfl, rfl, rfl⟩ := trodAll_nil r1
  obtain rfl : args = #[v0, v1] := by cases args; simp_all
  obtain ⟨rfl, rfl⟩ := trodVars_none hV
  obtain ⟨a0, rfl, rfl, rfl, w0⟩ := open_string Tryd.underlying9 (hval 0 9 v0 rfl rfl) h0
  obtain ⟨a1, rfl, rfl, rfl, w1⟩ := open_int Tryd.underlying3 (hval 1 3 v1 rfl rfl) h1
  clear hA0 hval0
  simp only [List.append_nil] at hW'
  refine (walk a0 w0 a1 w1 W (of_laid hL)).mono fun e W' ⟨he, hg⟩ => ?_
  subst he
  exact ⟨_, rfl, _, _, _, [], _, [], hW', trodAll_mk1 (shut_bool Tryd.underlying4 _), (trodAll_cons_mk (shut_string Tryd.underlying9 w0) (trodAll_cons_mk (shut_int Tryd.underlying3 w1) trodAll_mk0)), rfl, hg.frame _, fun h => by cases h⟩

theorem over : Rows.labelRunesRow.holds Tryd.pinned (OpenSpec.ofChange Rows.labelRunesSpec) :=
  OpenClaim.holds_of_wide 3 Tryd.f3 rfl rfl rfl rfl rfl rfl rfl ⟨rfl, rfl, rfl, rfl, rfl⟩ rfl rfl rfl rfl rfl (by kernel_rfl) Tryd.func3 (by kernel_rfl)
    (of_decide_eq_true (by kernel_rfl)) (by unfold Func.isWrapper; first | (rw [if_pos (by decide +kernel)]; kernel_rfl) | (rw [if_neg (by decide +kernel)]; exact ⟨rfl, rfl⟩))
    (fun os started H enc _ => lifted os started H enc)

theorem holds : Rows.LabelRunesCardSaid :=
  Claim7.holds_tied_plain_at .later [] [.data, .data, .data] true Rows.labelRunesCard.stood.harness Rows.labelRunesCard.stood.looks
    over (fun _ h => by cases h) (by kernel_rfl) (fun _ h => by cases h) labelRunes_row_tie rfl ⟨rfl, rfl⟩ (by kernel_rfl) rfl
    (fun f fn hf hfn => by
      obtain rfl : f = 3 := Option.some.inj (hf.symm.trans (by kernel_rfl))
      obtain rfl : fn = Tryd.f3 := (Option.some.inj (Tryd.func3.symm.trans hfn)).symm
      exact ⟨by kernel_rfl, fun j t ht => by
        rw [Tryd.params3] at ht
        have hm : t ∈ [9, 3] := by simpa using Array.mem_of_getElem? ht
        have hall : ([9, 3].all fun u => !Tryd.prog.wantsStandIn u) = true := by kernel_rfl
        exact (show Tryd.prog.wantsStandIn t = false by simpa using List.all_eq_true.1 hall t hm)⟩)
    (by kernel_rfl)

end Go.Proofs.YtghnjdbamenkgaaDoor.labelRunes
