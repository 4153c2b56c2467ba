/-
  DirTakes: for every input the law answers true: the directory that bytes say, or what is wrong, is as the document says. Conditions: none.
-/
import Derived.Test.YteellffkjjllgaaQDrTakeR
namespace Go.Proofs.Yteellffkjjllgaa.dirTakes
open Go.ChangeShapes Go.WideShapes Go.ChangeAt Go.RowKit Go.Rc5 Go.Rc6 Go.Rc7
open Go.ChangeMaps (open_string shut_string)

open Classical in
set_option maxRecDepth 100000 in
set_option maxHeartbeats 8000000 in
theorem walk (s : ByteArray) (_ : s.size ≤ maxLen) (sealed : Bool) (w : World) :
    Calls Try.prog 3 #[.string s, .bool sealed] w fun e w' => e = .returned (.bool true) ∧ Below w.heap.size w w' := by
  go_enter Try.func3, Try.ntmps3
  go_wp2_with fail
  refine (shown_any _).mono ?_
  rintro e w1 ⟨rfl, hb1⟩
  have HB := Lib.hid hb1
  clear hb1
  by_cases hz : s.size ≤ 2000
  · have hz' : ¬ (2000 : Int) < s.size := by omega
    cases sealed with
    | true =>
      have HP := Lib.hid (fun W => PutR_seal s (by unfold maxLen; omega) W)
      have hz2 : (sealedB s).size ≤ 1000000 := by rw [sealed_size]; omega
      go_wp2_with fail
      refine (HP.out _).mono ?_
      rintro e w5 ⟨rfl, hb5⟩
      replace HB := Lib.hid (below_trans HB.out hb5)
      clear hb5 HP hz hz'
      have HT := Lib.hid (fun W => Take_files (sealedB s) hz2 W)
      have HD := Lib.hid (fun W => TakeD_files (sealedB s) hz2 W)
      have HX : Hid ((errT (sealedB s) == errT (sealedB s)) = true) := Lib.hid (beq_self_eq_true _)
      have HI : Hid (∀ L M, Dir L → (sealedB s) = dirB L → Dir M → (sealedB s) = dirB M → M = L) := fun L M hL e hM e' => dir_inj hM hL (e'.symm.trans e)
      generalize (sealedB s) = S at *
      clear hz2
      go_wp2_with fail
      refine (HT.out _).mono ?_
      rintro e w2 hT
      rcases hT with ⟨L, a1, c1, hL, hD, rfl, hF, hb2⟩ | ⟨hno, rfl, hb2⟩
      · replace HB := Lib.hid (below_trans HB.out hb2)
        have HF := Lib.hid hF
        have HL := Lib.hid hL
        have HE := Lib.hid hD
        clear hb2 HT hF hL hD
        go_wp2_with fail
        refine (HD.out _).mono ?_
        rintro e w3 hT
        rcases hT with ⟨M, a2, c2, hM, hD2, rfl, hF2, hb3⟩ | ⟨hno, _⟩
        · obtain rfl := HI.out L M HL.out HE.out hM hD2
          replace HB := Lib.hid (below_trans HB.out hb3)
          obtain ⟨k, hk⟩ : ∃ k, M.length = k := ⟨_, rfl⟩
          have hk1 : k ≤ 1000000 := by have := HL.out.many; omega
          have hs := files_same_any M M a1 a2 c1 c2 k k w3 (FilesAt.below HF.out hb3) hF2 hk hk hk1 (fun f hf => by have := (HL.out.well f hf).many; omega)
          rw [decide_eq_true (rfl : M = M)] at hs
          rw [hk]
          have HS := Lib.hid hs
          clear hs hF2 hb3 HF HD HX HI HE hM hD2 hk hk1 HL
          go_wp2_with fail
          refine HS.out.mono ?_
          rintro e w4 ⟨rfl, hb4⟩
          replace HB := Lib.hid (below_trans HB.out hb4)
          clear hb4 HS
          go_wp2
          go_ret
          exact ⟨rfl, HB.out⟩
        · exact absurd ⟨L, HL.out, HE.out⟩ hno
      · replace HB := Lib.hid (below_trans HB.out hb2)
        have HN := Lib.hid hno
        clear hb2 HT hno
        go_wp2_with fail
        refine (HD.out _).mono ?_
        rintro e w3 hT
        rcases hT with ⟨M, a2, c2, hM, hD2, _⟩ | ⟨_, rfl, hb3⟩
        · exact absurd ⟨M, hM, hD2⟩ HN.out
        · replace HB := Lib.hid (below_trans HB.out hb3)
          have hs := files_same_any [] [] none none 0 0 0 0 w3 (fun i hi => absurd hi (Nat.not_lt_zero i)) (fun i hi => absurd hi (Nat.not_lt_zero i)) rfl rfl (by omega) (fun f hf => absurd hf (List.not_mem_nil))
          rw [decide_eq_true (rfl : ([] : List Fl) = [])] at hs
          have HS := Lib.hid hs
          have hx := HX.out
          clear hs hb3 HD HX HI HN
          go_wp2_with fail
          refine HS.out.mono ?_
          rintro e w4 ⟨rfl, hb4⟩
          replace HB := Lib.hid (below_trans HB.out hb4)
          clear hb4 HS
          go_wp2
          go_ret
          exact ⟨by simp, HB.out⟩
    | false =>
      have hz2 : s.size ≤ 1000000 := by omega
      have HT := Lib.hid (fun W => Take_files s hz2 W)
      have HD := Lib.hid (fun W => TakeD_files s hz2 W)
      have HX : Hid ((errT s == errT s) = true) := Lib.hid (beq_self_eq_true _)
      have HI : Hid (∀ L M, Dir L → s = dirB L → Dir M → s = dirB M → M = L) := fun L M hL e hM e' => dir_inj hM hL (e'.symm.trans e)
      clear hz2
      go_wp2_with fail
      refine (HT.out _).mono ?_
      rintro e w2 hT
      rcases hT with ⟨L, a1, c1, hL, hD, rfl, hF, hb2⟩ | ⟨hno, rfl, hb2⟩
      · replace HB := Lib.hid (below_trans HB.out hb2)
        have HF := Lib.hid hF
        have HL := Lib.hid hL
        have HE := Lib.hid hD
        clear hb2 HT hF hL hD
        go_wp2_with fail
        refine (HD.out _).mono ?_
        rintro e w3 hT
        rcases hT with ⟨M, a2, c2, hM, hD2, rfl, hF2, hb3⟩ | ⟨hno, _⟩
        · obtain rfl := HI.out L M HL.out HE.out hM hD2
          replace HB := Lib.hid (below_trans HB.out hb3)
          obtain ⟨k, hk⟩ : ∃ k, M.length = k := ⟨_, rfl⟩
          have hk1 : k ≤ 1000000 := by have := HL.out.many; omega
          have hs := files_same_any M M a1 a2 c1 c2 k k w3 (FilesAt.below HF.out hb3) hF2 hk hk hk1 (fun f hf => by have := (HL.out.well f hf).many; omega)
          rw [decide_eq_true (rfl : M = M)] at hs
          rw [hk]
          have HS := Lib.hid hs
          clear hs hF2 hb3 HF HD HX HI HE hM hD2 hk hk1 HL
          go_wp2_with fail
          refine HS.out.mono ?_
          rintro e w4 ⟨rfl, hb4⟩
          replace HB := Lib.hid (below_trans HB.out hb4)
          clear hb4 HS
          go_wp2
          go_ret
          exact ⟨rfl, HB.out⟩
        · exact absurd ⟨L, HL.out, HE.out⟩ hno
      · replace HB := Lib.hid (below_trans HB.out hb2)
        have HN := Lib.hid hno
        clear hb2 HT hno
        go_wp2_with fail
        refine (HD.out _).mono ?_
        rintro e w3 hT
        rcases hT with ⟨M, a2, c2, hM, hD2, _⟩ | ⟨_, rfl, hb3⟩
        · exact absurd ⟨M, hM, hD2⟩ HN.out
        · replace HB := Lib.hid (below_trans HB.out hb3)
          have hs := files_same_any [] [] none none 0 0 0 0 w3 (fun i hi => absurd hi (Nat.not_lt_zero i)) (fun i hi => absurd hi (Nat.not_lt_zero i)) rfl rfl (by omega) (fun f hf => absurd hf (List.not_mem_nil))
          rw [decide_eq_true (rfl : ([] : List Fl) = [])] at hs
          have HS := Lib.hid hs
          have hx := HX.out
          clear hs hb3 HD HX HI HN
          go_wp2_with fail
          refine HS.out.mono ?_
          rintro e w4 ⟨rfl, hb4⟩
          replace HB := Lib.hid (below_trans HB.out hb4)
          clear hb4 HS
          go_wp2
          go_ret
          exact ⟨by simp, HB.out⟩
  · have hz' : (2000 : Int) < s.size := by omega
    go_wp2
    go_ret
    exact ⟨rfl, HB.out⟩

set_option maxRecDepth 100000 in
theorem lifted (os : Os) (started : os.Started) (H : Type) (enc : TypeId × Value → H) :
    ReturnsInHanded {} Try.checked os 3 .any (Rows.dirTakesSpec.pre6 enc Try.prog Try.f3 Rows.dirTakesRow.domain false) (Rows.dirTakesSpec.post enc Try.prog Try.f3 false true false false) := by
  refine returnsInHanded_of_change (C := Try.checked) own started (by kernel_rfl) Try.func3
    (ChangeSpec.witness6 (enc := enc) (C := Try.checked) false ⟨#[], #[.string ByteArray.empty, .bool false], []⟩ 8 (by kernel_rfl) (by kernel_rfl) (by kernel_rfl) (by kernel_rfl)) ?_
  intro W base args ds gs before hval0 hW _ _
  have hval : ∀ (j : Nat) t v, Try.f3.params[j]? = some t → args[j]? = some v → Value.okWide Try.prog W .any base t v := hval0
  have hW' := hW
  obtain ⟨p, q, hA0, hV, rfl, hfz, hnd⟩ := hW
  have hA : DataW.TrodAll enc Try.prog W 0 (fun _ => true) true Try.f3.params.toList args.toList ds p := hA0
  rw [Try.params3] at hA hval
  obtain ⟨v0, vs0, d0, ds0, p0, q0, hargs, rfl, rfl, h0, r0⟩ := trodAll_cons hA
  obtain ⟨v1, vs1, d1, ds1, p1, q1, rfl, rfl, rfl, h1, r1⟩ := trodAll_cons r0
  obtain ⟨rfl, rfl, rfl⟩ := trodAll_nil r1
  obtain rfl : args = #[v0, v1] := by cases args; simp_all
  obtain ⟨rfl, rfl⟩ := trodVars_none hV
  obtain ⟨a0, rfl, rfl, rfl, w0⟩ := open_string Try.underlying9 (hval 0 9 v0 rfl rfl) h0
  obtain ⟨a1, rfl, rfl, rfl⟩ := open_bool Try.underlying4 (hval 1 4 v1 rfl rfl) h1
  clear hA0 hval0
  simp only [List.append_nil] at hW'
  refine (walk a0 w0 a1 W).mono fun e W' ⟨he, bel⟩ => ?_
  subst he
  exact ⟨_, rfl, _, _, _, [], _, [], hW', trodAll_mk1 (shut_bool Try.underlying4 _), (trodAll_cons_mk (shut_string Try.underlying9 w0) (trodAll_cons_mk (shut_bool Try.underlying4 _) trodAll_mk0)), rfl, bel.frame _, fun h => by cases h⟩

theorem holds : Rows.DirTakesSaid :=
  OpenClaim.holds_of_wide 3 Try.f3 rfl rfl rfl rfl rfl rfl rfl ⟨rfl, rfl, rfl, rfl, rfl⟩ rfl rfl rfl rfl rfl (by kernel_rfl) Try.func3 (by kernel_rfl)
    (of_decide_eq_true (by kernel_rfl)) (by unfold Func.isWrapper; first | (rw [if_pos (by decide +kernel)]; kernel_rfl) | (rw [if_neg (by decide +kernel)]; exact ⟨rfl, rfl⟩))
    (fun os started H enc _ => lifted os started H enc)

end Go.Proofs.Yteellffkjjllgaa.dirTakes
