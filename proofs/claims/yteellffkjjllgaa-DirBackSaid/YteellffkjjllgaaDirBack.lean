/-
  DirBack: for every input the law answers true: a directory that was put is taken, and bytes that were taken are put. Conditions: none.
-/
import Derived.Test.YteellffkjjllgaaQDrShown
namespace Go.Proofs.Yteellffkjjllgaa.dirBack
open Go.ChangeShapes Go.WideShapes Go.ChangeAt Go.RowKit Go.Rc5 Go.Rc6 Go.Rc7
open Go.ChangeMaps (open_string shut_string)

open Classical in
set_option maxRecDepth 100000 in
set_option maxHeartbeats 8000000 in
theorem walk (a : Option Addr) (n c : Nat) (L : List Fl) (s : ByteArray) (_ : s.size ≤ maxLen) (w : World) (h : IsFiles w a n c L) :
    Calls Try.prog 5 #[.slice a n c, .string s] w fun e w' => e = .returned (.bool true) ∧ Below w.heap.size w w' := by
  have HI := Lib.hid (fun W (hW : Below w.heap.size w W) => IsFiles.below h hW)
  clear h
  go_enter Try.func5, Try.ntmps5
  go_wp2_with fail
  refine (shown_any _).mono ?_
  rintro e w1 ⟨rfl, hb1⟩
  have HB := Lib.hid hb1
  have hI := HI.out _ hb1
  have HSm := Lib.hid (small_any L a n c w1 hI.at_ hI.size)
  clear hb1 hI
  go_wp2_with fail
  refine HSm.out.mono ?_
  rintro e w2 ⟨⟨b, rfl, hsm⟩, rfl⟩
  clear HSm
  cases b with
  | false =>
    clear hsm
    go_wp2
    go_ret
    exact ⟨rfl, HB.out⟩
  | true =>
    have HM := Lib.hid (hsm rfl)
    clear hsm
    by_cases hz : s.size ≤ 2000
    · have hz' : ¬ (2000 : Int) < s.size := by omega
      have hI := HI.out _ HB.out
      have hLn : n ≤ 130 := by rw [← hI.size]; exact HM.out.many
      by_cases hd : Dir L
      · have HP := Lib.hid (Put_yes L a n c w2 hI.at_ hI.size hd)
        have hdz : (dirB L).size ≤ 1000000 := by
          have := hd.body_le
          have e : (dirB L).size = (bodyT L).length + 4 := by unfold dirB; rw [sealed_size]; rfl
          omega
        have HT := Lib.hid (fun W => Take_files (dirB L) hdz W)
        have HDI : Hid (∀ M, Dir M → dirB L = dirB M → M = L) := fun M hM e => (dir_inj hd hM e).symm
        have HEX : Hid (∃ M, Dir M ∧ dirB L = dirB M) := ⟨L, hd, rfl⟩
        have HSP : Hid (∀ f ∈ L, f.spans.length ≤ 1000000) := fun f hf => by have := HM.out.spans f hf; omega
        clear hI hd hdz
        generalize dirB L = D at *
        go_wp2_with fail
        refine HP.out.mono ?_
        rintro e w3 ⟨rfl, hb3⟩
        replace HB := Lib.hid (below_trans HB.out hb3)
        clear hb3 HP
        go_wp2_with fail
        refine (HT.out _).mono ?_
        rintro e w4 hT
        rcases hT with ⟨M, a1, c1, hM, hD, rfl, hF, hb4⟩ | ⟨hno, _⟩
        · obtain rfl := HDI.out M hM hD
          replace HB := Lib.hid (below_trans HB.out hb4)
          have HF := Lib.hid hF
          have hI := HI.out _ HB.out
          have HAs := Lib.hid (as_any M a n c w4 hI.at_ hI.size (by omega))
          have hMl : M.length = n := hI.size
          clear hF hb4 hD hM HT HDI HEX hI
          rw [hMl]
          go_wp2_with fail
          refine HAs.out.mono ?_
          rintro e w5 ⟨a5, c5, rfl, hF5, hb5⟩
          have hsame := files_same_any M M a1 a5 c1 c5 n n w5 (FilesAt.below HF.out hb5) hF5 hMl hMl (by omega) HSP.out
          rw [decide_eq_true (rfl : M = M)] at hsame
          have HSame := Lib.hid hsame
          replace HB := Lib.hid (below_trans HB.out hb5)
          clear hF5 hb5 hsame HAs
          rw [hMl]
          go_wp2_with fail
          refine HSame.out.mono ?_
          rintro e w6 ⟨rfl, hb6⟩
          replace HB := Lib.hid (below_trans HB.out hb6)
          clear hb6 HSame HF
          have HTS := Lib.hid (fun W => Take_files s (by omega) W)
          go_wp2_with fail
          refine (HTS.out _).mono ?_
          rintro e wt hT
          rcases hT with ⟨M, a2, c2, hM, hD, rfl, hF2, hb2⟩ | ⟨_, rfl, hb2⟩
          · replace HB := Lib.hid (below_trans HB.out hb2)
            have HP2 := Lib.hid (Put_yes M a2 M.length c2 wt hF2 rfl hM)
            rw [← hD] at HP2
            have hself : (s.toList == s.toList) = true := by simp
            clear hF2 hb2 hD hM HTS
            go_wp2_with fail
            refine HP2.out.mono ?_
            rintro e wu ⟨rfl, hb3⟩
            replace HB := Lib.hid (below_trans HB.out hb3)
            clear hb3 HP2
            go_wp2
            go_ret
            exact ⟨by simp, HB.out⟩
          · replace HB := Lib.hid (below_trans HB.out hb2)
            have hx : (errT s == 0) = false := beq_eq_false_iff_ne.2 (errT_ne s)
            generalize errT s = xe at *
            clear hb2 HTS
            go_wp2
            go_ret
            exact ⟨rfl, HB.out⟩
        · exact absurd HEX.out hno
      · have HP := Lib.hid (Put_no L hI.ok a n c w2 hI.at_ hI.size hd)
        clear hI hd
        go_wp2_with fail
        refine HP.out.mono ?_
        rintro e w3 ⟨rfl, hb3⟩
        replace HB := Lib.hid (below_trans HB.out hb3)
        clear hb3 HP
        have HTS := Lib.hid (fun W => Take_files s (by omega) W)
        go_wp2_with fail
        refine (HTS.out _).mono ?_
        rintro e wt hT
        rcases hT with ⟨M, a2, c2, hM, hD, rfl, hF2, hb2⟩ | ⟨_, rfl, hb2⟩
        · replace HB := Lib.hid (below_trans HB.out hb2)
          have HP2 := Lib.hid (Put_yes M a2 M.length c2 wt hF2 rfl hM)
          rw [← hD] at HP2
          have hself : (s.toList == s.toList) = true := by simp
          clear hF2 hb2 hD hM HTS
          go_wp2_with fail
          refine HP2.out.mono ?_
          rintro e wu ⟨rfl, hb3⟩
          replace HB := Lib.hid (below_trans HB.out hb3)
          clear hb3 HP2
          go_wp2
          go_ret
          exact ⟨by simp, HB.out⟩
        · replace HB := Lib.hid (below_trans HB.out hb2)
          have hx : (errT s == 0) = false := beq_eq_false_iff_ne.2 (errT_ne s)
          generalize errT s = xe at *
          clear hb2 HTS
          go_wp2
          go_ret
          exact ⟨rfl, HB.out⟩
    · have hz' : (2000 : Int) < s.size := by omega
      go_wp2
      go_ret
      exact ⟨rfl, HB.out⟩

set_option maxRecDepth 100000 in
theorem lifted (os : Os) (started : os.Started) (H : Type) (enc : TypeId × Value → H) :
    ReturnsInHanded {} Try.checked os 5 .any (Rows.dirBackSpec.pre6 enc Try.prog Try.f5 Rows.dirBackRow.domain false) (Rows.dirBackSpec.post enc Try.prog Try.f5 false true false false) := by
  refine returnsInHanded_of_change (C := Try.checked) own started (by kernel_rfl) Try.func5
    (ChangeSpec.witness6 (enc := enc) (C := Try.checked) false ⟨#[], #[.slice none 0 0, .string ByteArray.empty], []⟩ 8 (by kernel_rfl) (by kernel_rfl) (by kernel_rfl) (by kernel_rfl)) ?_
  intro W base args ds gs before hval0 hW _ _
  have hval : ∀ (j : Nat) t v, Try.f5.params[j]? = some t → args[j]? = some v → Value.okWide Try.prog W .any base t v := hval0
  have hW' := hW
  obtain ⟨p, q, hA0, hV, rfl, hfz, hnd⟩ := hW
  have hA : DataW.TrodAll enc Try.prog W 0 (fun _ => true) true Try.f5.params.toList args.toList ds p := hA0
  rw [Try.params5] at hA hval
  obtain ⟨v0, vs0, d0, ds0, p0, q0, hargs, rfl, rfl, h0, r0⟩ := trodAll_cons hA
  obtain ⟨v1, vs1, d1, ds1, p1, q1, rfl, rfl, rfl, h1, r1⟩ := trodAll_cons r0
  obtain ⟨rfl, rfl, rfl⟩ := trodAll_nil r1
  obtain rfl : args = #[v0, v1] := by cases args; simp_all
  obtain ⟨rfl, rfl⟩ := trodVars_none hV
  obtain ⟨a0, len0, cap0, rfl⟩ := okWide_slice Try.underlying24 (hval 0 24 v0 rfl rfl)
  have k0 := h0
  have lt0 : ∀ x ∈ p0, x.block < W.heap.size := by obtain ⟨m, hm⟩ := k0; exact DataW.trod_lt m _ _ _ hm
  obtain ⟨z0, w0⟩ : ∃ zs, IsFiles W a0 len0 cap0 zs := by
    obtain ⟨fuel, hf⟩ := h0
    exact open_files hf
  obtain ⟨a1, rfl, rfl, rfl, w1⟩ := open_string Try.underlying9 (hval 1 9 v1 rfl rfl) h1
  clear hA0 hval0
  refine (walk a0 len0 cap0 z0 a1 w1 W w0).mono fun e W' ⟨he, bel⟩ => ?_
  subst he
  exact ⟨_, rfl, _, _, _, [], _, [], hW', trodAll_mk1 (shut_bool Try.underlying4 _), (trodAll_cons_mk (Below.trod laidOut (by kernel_rfl) (of_decide_eq_true (by kernel_rfl)) k0 bel lt0) (trodAll_cons_mk (shut_string Try.underlying9 w1) trodAll_mk0)), rfl, bel.frame _, fun h => by cases h⟩

theorem holds : Rows.DirBackSaid :=
  OpenClaim.holds_of_wide 5 Try.f5 rfl rfl rfl rfl rfl rfl rfl ⟨rfl, rfl, rfl, rfl, rfl⟩ rfl rfl rfl rfl rfl (by kernel_rfl) Try.func5 (by kernel_rfl)
    (of_decide_eq_true (by kernel_rfl)) (by unfold Func.isWrapper; first | (rw [if_pos (by decide +kernel)]; kernel_rfl) | (rw [if_neg (by decide +kernel)]; exact ⟨rfl, rfl⟩))
    (fun os started H enc _ => lifted os started H enc)

end Go.Proofs.Yteellffkjjllgaa.dirBack
