/-
  LabelCuts: for every input the law answers true: the first runes and those behind them are the text, are counted so, and are valid where it is. Condition: the listed variables of Go's own library start as the program's text lays them (the card ties them).
-/
import Derived.Test.YtghnjdbamenkgaaDoorLaw
import Derived.Test.YtghnjdbamenkgaaDoorMathL
namespace Go.Proofs.YtghnjdbamenkgaaDoor.labelCuts
open Go.ChangeShapes Go.WideShapes Go.ChangeAt Go.RowKit
open Go.ChangeMaps (open_string shut_string)

theorem size_mk (l : List UInt8) : (⟨l.toArray⟩ : ByteArray).size = l.length := by simp [ByteArray.size]

set_option maxHeartbeats 1000000 in
theorem walk (a0 : ByteArray) (_w0 : a0.size ≤ maxLen) (a1 : Int) (_w1 : (Lit.int .i64 a1).wf = true) (w : World) (hT : Tab w) :
    Calls Tryd.prog 7 #[.string a0, .int .i64 a1] w fun e w' => e = .returned (.bool true) ∧ Below w.heap.size w w' := by
  unfold maxLen at _w0
  have HSh := Lib.hid (relT shown_any w hT)
  have HB0 := Below.refl w.heap.size w
  clear hT
  by_cases hs : a0.size ≤ 800
  · have hF := rel (fun w => First_any a0 a1 (by omega) w) w
    obtain ⟨a, ha⟩ : ∃ a : ByteArray, a = ⟨(Rc1.first a0.data.toList a1.toNat).toArray⟩ := ⟨_, rfl⟩
    have hal : a.data.toList = Rc1.first a0.data.toList a1.toNat := by rw [ha]
    have haz : a.size = (Rc1.first a0.data.toList a1.toNat).length := by rw [ha, size_mk]
    have hle : a.size ≤ a0.size := by rw [haz, ← len_data a0]; exact Rc1.first_len _ _
    have hpre : a0.extract 0 a.size = a := by rw [extract_take, haz, Rc1.first_take, ha]
    have hbl : (a0.extract a.size a0.size).data.toList = a0.data.toList.drop (Rc1.first a0.data.toList a1.toNat).length := by rw [extract_list, haz]
    rw [← ha] at hF
    have hCs := rel (fun w => Count_any a0 (by omega) w) w
    have hCa := rel (fun w => Count_any a (by omega) w) w
    have hCb := rel (fun w => Count_any (a0.extract a.size a0.size) (by rw [← len_data, hbl, List.length_drop, len_data]; omega) w) w
    have hVs := rel (fun w => Valid_any a0 (by omega) w) w
    have hVa := rel (fun w => Valid_any a (by omega) w) w
    have hVb := rel (fun w => Valid_any (a0.extract a.size a0.size) (by rw [← len_data, hbl, List.length_drop, len_data]; omega) w) w
    have hcs : Rc1.count a0.data.toList ≤ a0.size := by have := Rc1.cut_len_le a0.data.toList; rw [len_data] at this; exact this
    rw [hal, Rc1.count_first] at hCa
    rw [hbl, Rc1.count_rest] at hCb
    have hval : Rc1.valid a0.data.toList = true → Rc1.valid a.data.toList = true ∧ Rc1.valid (a0.extract a.size a0.size).data.toList = true := by
      intro h; rw [hal, hbl]; exact Rc1.valid_first _ _ h
    generalize Rc1.count a0.data.toList = cs at hCs hCa hCb hcs
    obtain ⟨ca, hca⟩ : ∃ ca, ca = min a1.toNat cs := ⟨_, rfl⟩
    obtain ⟨cb, hcb⟩ : ∃ cb, cb = cs - a1.toNat := ⟨_, rfl⟩
    rw [← hca] at hCa; rw [← hcb] at hCb
    have HF := Lib.hid hF; have HCs := Lib.hid hCs; have HCa := Lib.hid hCa; have HCb := Lib.hid hCb
    have e1 : ((ca : Int) == max 0 (min a1 cs)) = true := by rw [beq_iff_eq]; omega
    have e2 : (((ca : Int) + cb) == cs) = true := by rw [beq_iff_eq]; omega
    have hca' : ca ≤ cs := by omega
    have hcb' : cb ≤ cs := by omega
    clear hF hCs hCa hCb hal haz ha hbl hca hcb
    cases hv : Rc1.valid a0.data.toList with
    | false =>
      rw [hv] at hVs
      have HVs := Lib.hid hVs
      clear hVs hVa hVb hval hv
      go_enter Tryd.func7, Tryd.ntmps7
      go_wp2_with (first | (go_at_call 11; ((with_reducible refine (HSh.out _ (by assumption)).mono ?_)); rintro e w1 ⟨rfl, hbw⟩) | (go_at_call 16; ((with_reducible refine (HF.out _ (by assumption)).mono ?_)); rintro e w1 ⟨rfl, hbw⟩) | (go_at_call 14; ((with_reducible refine (HCa.out _ (by assumption)).mono ?_)); rintro e w1 ⟨rfl, hbw⟩) | (go_at_call 14; ((with_reducible refine (HCs.out _ (by assumption)).mono ?_)); rintro e w1 ⟨rfl, hbw⟩) | (go_at_call 14; ((with_reducible refine (HCb.out _ (by assumption)).mono ?_)); rintro e w1 ⟨rfl, hbw⟩) | (go_at_call 12; ((with_reducible refine (HVs.out _ (by assumption)).mono ?_)); rintro e w1 ⟨rfl, hbw⟩))
      go_ret
      exact ⟨rfl, hbw⟩
    | true =>
      rw [hv] at hVs
      rw [(hval hv).1] at hVa
      rw [(hval hv).2] at hVb
      have HVs := Lib.hid hVs; have HVa := Lib.hid hVa; have HVb := Lib.hid hVb
      clear hVs hVa hVb hval hv
      go_enter Tryd.func7, Tryd.ntmps7
      go_wp2_with (first | (go_at_call 11; ((with_reducible refine (HSh.out _ (by assumption)).mono ?_)); rintro e w1 ⟨rfl, hbw⟩) | (go_at_call 16; ((with_reducible refine (HF.out _ (by assumption)).mono ?_)); rintro e w1 ⟨rfl, hbw⟩) | (go_at_call 14; ((with_reducible refine (HCa.out _ (by assumption)).mono ?_)); rintro e w1 ⟨rfl, hbw⟩) | (go_at_call 14; ((with_reducible refine (HCs.out _ (by assumption)).mono ?_)); rintro e w1 ⟨rfl, hbw⟩) | (go_at_call 14; ((with_reducible refine (HCb.out _ (by assumption)).mono ?_)); rintro e w1 ⟨rfl, hbw⟩) | (go_at_call 12; ((with_reducible refine (HVs.out _ (by assumption)).mono ?_)); rintro e w1 ⟨rfl, hbw⟩) | (go_at_call 12; ((with_reducible refine (HVa.out _ (by assumption)).mono ?_)); rintro e w1 ⟨rfl, hbw⟩) | (go_at_call 12; ((with_reducible refine (HVb.out _ (by assumption)).mono ?_)); rintro e w1 ⟨rfl, hbw⟩))
      go_ret
      exact ⟨rfl, hbw⟩
  · have hs' : (800 : Int) < a0.size := by omega
    go_enter Tryd.func7, Tryd.ntmps7
    go_wp2_with (go_at_call 11; ((with_reducible refine (HSh.out _ (by assumption)).mono ?_)); rintro e w1 ⟨rfl, hbw⟩)
    go_ret
    exact ⟨rfl, hbw⟩

set_option maxRecDepth 100000 in
theorem lifted (os : Os) (started : os.Started) (H : Type) (enc : TypeId × Value → H) :
    ReturnsInHanded {} Tryd.checked os 7 .any (fun w args => (Rows.labelCutsSpec.pre enc Tryd.prog Tryd.f7 [] false w args ∧ laidMetH Tryd.prog laid3 w) ∧ sizedMet enc Tryd.prog Tryd.f7 (OpenSpec.ofChange Rows.labelCutsSpec) false w args)
      (Rows.labelCutsSpec.post enc Tryd.prog Tryd.f7 false true false false) := by
  refine returnsInHanded_of_change_and (C := Tryd.checked) (X := fun w _ => laidMetH Tryd.prog laid3 w) (fun _ _ _ hh h => h.of_heap hh) own started (by kernel_rfl) Tryd.func7
    (ChangeSpec.witness_shaped (enc := enc) (C := Tryd.checked) (os := os) (X := fun w _ => laidMetH Tryd.prog laid3 w) false (World.doorLaid Tryd.prog 400 os) #[.string ByteArray.empty, .int .i64 0] 8 rfl (World.shaped_of_RefB (by kernel_rfl) (by kernel_rfl)) (by kernel_rfl) (by kernel_rfl) (by kernel_rfl) (door_met os _)) ?_
  intro W base args ds gs before hval0 hW _ _ hL _
  have hval : ∀ (j : Nat) t v, Tryd.f7.params[j]? = some t → args[j]? = some v → Value.okWide Tryd.prog W .any base t v := hval0
  have hW' := hW
  obtain ⟨p, q, hA0, hV, rfl, hfz, hnd⟩ := hW
  have hA : DataW.TrodAll enc Tryd.prog W 0 (fun _ => true) true Tryd.f7.params.toList args.toList ds p := hA0
  rw [Tryd.params7] at hA hval
  obtain ⟨v0, vs0, d0, ds0, p0, q0, hargs, rfl, rfl, h0, r0⟩ := trodAll_cons hA
  obtain ⟨v1, vs1, d1, ds1, p1, q1, rfl, rfl, rfl, h1, r1⟩ := trodAll_cons r0
  obtain ⟨rfl, rfl, rfl⟩ := trodAll_nil r1
  obtain rfl : args = #[v0, v1] := by cases args; simp_all
  obtain ⟨rfl, rfl⟩ := trodVars_none hV
  obtain ⟨a0, rfl, rfl, rfl, w0⟩ := open_string Tryd.underlying9 (hval 0 9 v0 rfl rfl) h0
  obtain ⟨a1, rfl, rfl, rfl, w1⟩ := open_int Tryd.underlying3 (hval 1 3 v1 rfl rfl) h1
  clear hA0 hval0
  simp only [List.append_nil] at hW'
  refine (walk a0 w0 a1 w1 W (of_laid hL)).mono fun e W' ⟨he, hg⟩ => ?_
  subst he
  exact ⟨_, rfl, _, _, _, [], _, [], hW', trodAll_mk1 (shut_bool Tryd.underlying4 _), (trodAll_cons_mk (shut_string Tryd.underlying9 w0) (trodAll_cons_mk (shut_int Tryd.underlying3 w1) trodAll_mk0)), rfl, hg.frame _, fun h => by cases h⟩

theorem over : Rows.labelCutsRow.holds Tryd.pinned (OpenSpec.ofChange Rows.labelCutsSpec) :=
  OpenClaim.holds_of_wide 7 Tryd.f7 rfl rfl rfl rfl rfl rfl rfl ⟨rfl, rfl, rfl, rfl, rfl⟩ rfl rfl rfl rfl rfl (by kernel_rfl) Tryd.func7 (by kernel_rfl)
    (of_decide_eq_true (by kernel_rfl)) (by unfold Func.isWrapper; first | (rw [if_pos (by decide +kernel)]; kernel_rfl) | (rw [if_neg (by decide +kernel)]; exact ⟨rfl, rfl⟩))
    (fun os started H enc _ => lifted os started H enc)

theorem holds : Rows.LabelCutsCardSaid :=
  Claim7.holds_tied_plain_at .later [] [.data, .data, .data] true Rows.labelCutsCard.stood.harness Rows.labelCutsCard.stood.looks
    over (fun _ h => by cases h) (by kernel_rfl) (fun _ h => by cases h) labelCuts_row_tie rfl ⟨rfl, rfl⟩ (by kernel_rfl) rfl
    (fun f fn hf hfn => by
      obtain rfl : f = 7 := Option.some.inj (hf.symm.trans (by kernel_rfl))
      obtain rfl : fn = Tryd.f7 := (Option.some.inj (Tryd.func7.symm.trans hfn)).symm
      exact ⟨by kernel_rfl, fun j t ht => by
        rw [Tryd.params7] at ht
        have hm : t ∈ [9, 3] := by simpa using Array.mem_of_getElem? ht
        have hall : ([9, 3].all fun u => !Tryd.prog.wantsStandIn u) = true := by kernel_rfl
        exact (show Tryd.prog.wantsStandIn t = false by simpa using List.all_eq_true.1 hall t hm)⟩)
    (by kernel_rfl)

end Go.Proofs.YtghnjdbamenkgaaDoor.labelCuts
