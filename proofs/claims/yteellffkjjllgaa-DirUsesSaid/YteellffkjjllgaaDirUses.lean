/-
  DirUses: for every input the law answers true: what a directory uses is what its files use, and with a file more, or without one, as much more, or less. Conditions: none.
-/
import Derived.Test.YteellffkjjllgaaQDrUse
namespace Go.Proofs.Yteellffkjjllgaa.dirUses
open Go.ChangeShapes Go.WideShapes Go.ChangeAt Go.RowKit Go.Rc5 Go.Rc6 Go.Rc7
open Go.ChangeMaps (open_string shut_string)

set_option maxRecDepth 100000 in
set_option maxHeartbeats 8000000 in
theorem walk (a : Option Addr) (n c : Nat) (L : List Fl) (f : Fl) (p : Option Addr) (cp : Nat) (w : World) (h : IsFiles w a n c L) (hf : IsFile w p f) :
    Calls Try.prog 8 #[.slice a n c, .agg #[.string f.name, .int .i64 f.size, .slice p f.spans.length cp]] w fun e w' => e = .returned (.bool true) ∧ Below w.heap.size w w' := by
  have HI := Lib.hid (fun W (hW : Below w.heap.size w W) => IsFiles.below h hW)
  have HSF := Lib.hid (fun W (hW : Below w.heap.size w W) => SpansAt.below hf.at_ hW)
  obtain ⟨P, x, hP, hPx⟩ := h.put
  have HP := Lib.hid hP
  have HPX := Lib.hid hPx
  have HOne := Lib.hid (fun W (hW : Below w.heap.size w W) => hf.one cp hW)
  have HC := Lib.hid ((Crew.start w).block #[.string f.name, .int .i64 f.size, .slice p f.spans.length cp] 35)
  clear h hP hPx hf
  go_enter Try.func8, Try.ntmps8
  go_wp2_with fail
  refine (shown_any _).mono ?_
  rintro e w1 ⟨rfl, hb1⟩
  replace HC := Lib.hid (HC.out.below hb1)
  have hI := HI.out _ HC.out.bel
  have HSm := Lib.hid (small_any L a n c w1 hI.at_ hI.size)
  clear hb1 hI
  go_wp2_with fail
  refine HSm.out.mono ?_
  rintro e w2 ⟨⟨b, rfl, hsm⟩, rfl⟩
  have HSM := Lib.hid hsm
  clear HSm hsm
  go_wp2_with fail
  refine (HP.out _ HC.out.bel).mono ?_
  rintro e w3 ⟨rfl, hb3⟩
  replace HC := Lib.hid (HC.out.below hb3)
  have d0 := (HC.out.at 0 rfl (j := 0) rfl).1
  have d1 := (HC.out.at 0 rfl (j := 1) rfl).1
  have d2 := (HC.out.at 0 rfl (j := 2) rfl).1
  have hba := (Below.refl w3.heap.size w3).alloc (Nat.le_refl _) (.cells #[.string f.name, .int .i64 f.size, .slice p f.spans.length cp] 35)
  obtain ⟨P1, y, hP1, hPy⟩ := (HOne.out w3 HC.out.bel).put
  have HP1 := Lib.hid (hP1 _ (Below.refl _ _))
  have HPY := Lib.hid hPy
  replace HC := Lib.hid (HC.out.below hba)
  clear hb3 HP HOne hP1 hPy hba
  go_wp2_with fail
  refine HP1.out.mono ?_
  rintro e w4 ⟨rfl, hb4⟩
  replace HC := Lib.hid (HC.out.below hb4)
  clear hb4 HP1 d0 d1 d2
  rcases HPX.out with ⟨rfl, hd, _⟩ | ⟨rfl, _⟩
  · rcases HPY.out with ⟨rfl, hd1, _⟩ | ⟨rfl, _⟩
    · cases b with
      | true =>
        have HM := Lib.hid (HSM.out rfl)
        have HD := Lib.hid hd
        have hwf : Well f := hd1.well f (List.mem_singleton.2 rfl)
        have HW := Lib.hid hwf
        have hLn : n ≤ 120 := by rw [← (HI.out _ HC.out.bel).size]; exact hd.many
        have HSP : Hid (∀ g ∈ L, g.spans.length ≤ 8796093022208) := fun g hg => by have := (hd.well g hg).many; omega
        have HSF2 : Hid (f.spans.length ≤ 8796093022208) := by unfold Hid; have := hwf.many; omega
        clear hd hd1 hwf HPX HPY HSM
        have HWL : Hid (∀ g ∈ L, Well g) := HD.out.well
        have HE1 := Lib.hid (use_with HD.out.rises f)
        have HE2 := Lib.hid (use_without HD.out.rises f.name)
        have hI := HI.out _ HC.out.bel
        have HFind := Lib.hid (Find_any L f.name a n c w4 hI.at_ hI.size (by omega) HSP.out)
        have HLZ : Hid (L.length = n) := hI.size
        have HNC : Hid (n ≤ c) := hI.room
        have HFM : Hid (∀ g, findL L f.name = some g → g ∈ L) := fun g hg => List.mem_of_find?_eq_some hg
        clear hI
        have d0 := (HC.out.at 0 rfl (j := 0) rfl).1
        have d1 := (HC.out.at 0 rfl (j := 1) rfl).1
        have d2 := (HC.out.at 0 rfl (j := 2) rfl).1
        go_wp2_with fail
        refine HFind.out.mono ?_
        rintro e w5 hfd
        obtain ⟨o1, o2, v0, v1, v2, bf, rfl, hb5, hfd2⟩ : ∃ (o1 : ByteArray) (o2 : Int) (v0 : Option Addr) (v1 v2 : Nat) (bf : Bool), e = .returned (.tuple #[.agg #[.string o1, .int .i64 o2, .slice v0 v1 v2], .bool bf]) ∧ Below w4.heap.size w4 w5 ∧ ((∃ g, bf = true ∧ findL L f.name = some g ∧ v1 = g.spans.length ∧ SpansAt w5 v0 g.spans) ∨ (bf = false ∧ findL L f.name = none)) := by
          rcases hfd with ⟨g, q, cq, ho, rfl, hsp, hb⟩ | ⟨ho, rfl, hb⟩
          · exact ⟨g.name, g.size, q, g.spans.length, cq, true, rfl, hb, .inl ⟨g, rfl, ho, rfl, hsp⟩⟩
          · exact ⟨⟨#[]⟩, 0, none, 0, 0, false, rfl, hb, .inr ⟨rfl, ho⟩⟩
        have HFD := Lib.hid hfd2
        have H5 := (HC.out.below hb5).block #[.string o1, .int .i64 o2, .slice v0 v1 v2] 35
        have HW5 := Lib.hid ((Below.refl w5.heap.size w5).alloc (Nat.le_refl _) (.cells #[.string o1, .int .i64 o2, .slice v0 v1 v2] 35))
        replace HC := Lib.hid H5
        clear H5 hb5 hfd hfd2 HFind d0 d1 d2
        have hI := HI.out _ HC.out.bel
        have HFX := Lib.hid hI.at_
        clear hI
        have hu := used_small (M := L) HWL.out
        have hul : (L).length ≤ 121 := by rw [HLZ.out]; omega
        have HU := Lib.hid (Used_any (L) a n c _ HFX.out HLZ.out (by omega) (by omega))
        have HUS : Hid ((∀ s ∈ usedL (L), 0 ≤ s.2 ∧ s.2 < 65536) ∧ (usedL (L)).length ≤ 1000000) := ⟨hu.1, by omega⟩
        clear hu hul HFX
        go_wp2_with fail
        refine HU.out.mono ?_
        rintro e w6 ⟨auN, cuN, rfl, hsx, hb6⟩
        replace HC := Lib.hid (HC.out.below hb6)
        replace HW5 := Lib.hid (below_trans HW5.out hb6)
        have HSX := Lib.hid (sectors_any (usedL (L)) auN _ cuN w6 hsx rfl HUS.out.2 HUS.out.1)
        have HBDN := Lib.hid (sum_bound HUS.out.1)
        have HLDN := Lib.hid (show (usedL L).length ≤ 1000000 from HUS.out.2)
        clear hsx hb6 HU HUS
        go_wp2_with fail
        refine HSX.out.mono ?_
        rintro e w7 ⟨rfl, rfl⟩
        clear HSX
        have d0 := (HC.out.at 0 rfl (j := 0) rfl).1
        have d1 := (HC.out.at 0 rfl (j := 1) rfl).1
        have d2 := (HC.out.at 0 rfl (j := 2) rfl).1
        have hI := HI.out _ HC.out.bel
        have HWith := Lib.hid (With_any L f a p n c cp w7 hI.at_ hI.size (by omega) HNC.out HSP.out (HSF.out _ HC.out.bel) HSF2.out HD.out.rises)
        clear hI
        go_wp2_with fail
        refine HWith.out.mono ?_
        rintro e w8 ⟨aW, cW, rfl, hfW, hb8⟩
        replace HC := Lib.hid (HC.out.below hb8)
        replace HW5 := Lib.hid (below_trans HW5.out hb8)
        clear hb8 HWith d0 d1 d2
        have hu := used_small (M := withL L f) (fun g hg => (mem_with hg).elim (fun e => e ▸ HW.out) (HWL.out g))
        have hul : (withL L f).length ≤ 121 := by have := with_length L f; have := HLZ.out; omega
        have HU := Lib.hid (Used_any (withL L f) aW (withL L f).length cW w8 hfW rfl (by omega) (by omega))
        have HUS : Hid ((∀ s ∈ usedL (withL L f), 0 ≤ s.2 ∧ s.2 < 65536) ∧ (usedL (withL L f)).length ≤ 30000) := ⟨hu.1, by omega⟩
        clear hu hul hfW
        go_wp2_with fail
        refine HU.out.mono ?_
        rintro e wuW ⟨auW, cuW, rfl, hsx, hbx⟩
        replace HC := Lib.hid (HC.out.below hbx)
        replace HW5 := Lib.hid (below_trans HW5.out hbx)
        have HSX := Lib.hid (sectors_any (usedL (withL L f)) auW _ cuW wuW hsx rfl (by have := HUS.out.2; omega) HUS.out.1)
        have HBDW := Lib.hid (sum_bound HUS.out.1)
        have HLDW := Lib.hid HUS.out.2
        clear hsx hbx HU HUS
        go_wp2_with fail
        refine HSX.out.mono ?_
        rintro e wvW ⟨rfl, rfl⟩
        clear HSX
        have d0 := (HC.out.at 0 rfl (j := 0) rfl).1
        have d1 := (HC.out.at 0 rfl (j := 1) rfl).1
        have d2 := (HC.out.at 0 rfl (j := 2) rfl).1
        have hI := HI.out _ HC.out.bel
        have HWo := Lib.hid (Without_any L f.name a n c _ hI.at_ hI.size (by omega) HSP.out)
        clear hI
        go_wp2_with fail
        refine HWo.out.mono ?_
        rintro e w9 ⟨aO, cO, rfl, hfO, hb9⟩
        replace HC := Lib.hid (HC.out.below hb9)
        replace HW5 := Lib.hid (below_trans HW5.out hb9)
        clear hb9 HWo d0 d1 d2
        have hu := used_small (M := withoutL L f.name) (fun g hg => HWL.out g (mem_without hg))
        have hul : (withoutL L f.name).length ≤ 121 := by have h1 : (withoutL L f.name).length ≤ L.length := List.length_filter_le _ _; have := HLZ.out; omega
        have HU := Lib.hid (Used_any (withoutL L f.name) aO (withoutL L f.name).length cO w9 hfO rfl (by omega) (by omega))
        have HUS : Hid ((∀ s ∈ usedL (withoutL L f.name), 0 ≤ s.2 ∧ s.2 < 65536) ∧ (usedL (withoutL L f.name)).length ≤ 30000) := ⟨hu.1, by omega⟩
        clear hu hul hfO
        go_wp2_with fail
        refine HU.out.mono ?_
        rintro e wuO ⟨auO, cuO, rfl, hsx, hbx⟩
        replace HC := Lib.hid (HC.out.below hbx)
        replace HW5 := Lib.hid (below_trans HW5.out hbx)
        have HSX := Lib.hid (sectors_any (usedL (withoutL L f.name)) auO _ cuO wuO hsx rfl (by have := HUS.out.2; omega) HUS.out.1)
        have HBDO := Lib.hid (sum_bound HUS.out.1)
        have HLDO := Lib.hid HUS.out.2
        clear hsx hbx HU HUS
        go_wp2_with fail
        refine HSX.out.mono ?_
        rintro e wvO ⟨rfl, rfl⟩
        clear HSX
        have d0 := (HC.out.at 0 rfl (j := 0) rfl).1
        have d1 := (HC.out.at 0 rfl (j := 1) rfl).1
        have d2 := (HC.out.at 0 rfl (j := 2) rfl).1
        have hfs : ∀ s ∈ f.spans, 0 ≤ s.2 ∧ s.2 < 65536 := fun s hs => ⟨(HW.out.span s hs).2.2.1, (HW.out.span s hs).2.2.2⟩
        have HSX := Lib.hid (sectors_any f.spans p _ cp _ (HSF.out _ HC.out.bel) rfl (by have := HW.out.many; omega) hfs)
        have HBF := Lib.hid (sum_bound hfs)
        have HLF := Lib.hid HW.out.many
        clear hfs
        go_wp2_with fail
        refine HSX.out.mono ?_
        rintro e wz ⟨rfl, rfl⟩
        clear HSX d0 d1 d2
        have hbN := HBDN.out
        have hlN := HLDN.out
        have hbW := HBDW.out
        have hlW := HLDW.out
        have hbO := HBDO.out
        have hlO := HLDO.out
        have hbF := HBF.out
        have hlF := HLF.out
        have hE1 := HE1.out
        have hE2 := HE2.out
        have HB := Lib.hid HC.out.bel
        rcases HFD.out with ⟨g, rfl, hg, rfl, hsg⟩ | ⟨rfl, hg⟩
        · have hwg : Well g := HWL.out g (HFM.out g hg)
          have hgs : ∀ s ∈ g.spans, 0 ≤ s.2 ∧ s.2 < 65536 := fun s hs => ⟨(hwg.span s hs).2.2.1, (hwg.span s hs).2.2.2⟩
          have hbG := sum_bound hgs
          have hlG := hwg.many
          rw [hg] at hE1 hE2
          replace hE1 : sumI (usedL (withL L f)) = sumI (usedL L) + sumI f.spans - sumI g.spans := hE1
          replace hE2 : sumI (usedL (withoutL L f.name)) = sumI (usedL L) - sumI g.spans := hE2
          have e0 := (HC.out.at 1 rfl (j := 0) rfl).1
          have e1 := (HC.out.at 1 rfl (j := 1) rfl).1
          have e2 := (HC.out.at 1 rfl (j := 2) rfl).1
          have HSX := Lib.hid (sectors_any g.spans v0 _ v2 _ (SpansAt.below hsg HW5.out) rfl (by omega) hgs)
          clear hsg hgs hwg hg
          generalize sumI (usedL (withL L f)) = K at *
          generalize sumI (usedL (withoutL L f.name)) = M at *
          generalize sumI (usedL L) = Nn at *
          generalize sumI f.spans = F at *
          generalize sumI g.spans = G at *
          subst hE1 hE2
          go_wp2_with fail
          refine HSX.out.mono ?_
          rintro e wq ⟨rfl, rfl⟩
          clear HSX e0 e1 e2
          go_wp2
          go_ret
          exact ⟨by simp, HB.out⟩
        · rw [hg] at hE1 hE2
          replace hE1 : sumI (usedL (withL L f)) = sumI (usedL L) + sumI f.spans - 0 := hE1
          replace hE2 : sumI (usedL (withoutL L f.name)) = sumI (usedL L) - 0 := hE2
          clear hg
          generalize sumI (usedL (withL L f)) = K at *
          generalize sumI (usedL (withoutL L f.name)) = M at *
          generalize sumI (usedL L) = Nn at *
          generalize sumI f.spans = F at *
          subst hE1 hE2
          go_wp2
          go_ret
          exact ⟨by simp, HB.out⟩
      | false =>
        have HB := Lib.hid HC.out.bel
        clear HPX HPY HSM hd hd1
        go_wp2
        go_ret
        exact ⟨rfl, HB.out⟩
    · have HB := Lib.hid HC.out.bel
      clear HPX HPY HSM hd
      cases b with
      | true =>
        go_wp2
        go_ret
        exact ⟨rfl, HB.out⟩
      | false =>
        go_wp2
        go_ret
        exact ⟨rfl, HB.out⟩
  · have HB := Lib.hid HC.out.bel
    clear HPX HPY HSM
    cases b with
    | true =>
      go_wp2
      go_ret
      exact ⟨rfl, HB.out⟩
    | false =>
      go_wp2
      go_ret
      exact ⟨rfl, HB.out⟩

set_option maxRecDepth 100000 in
theorem lifted (os : Os) (started : os.Started) (H : Type) (enc : TypeId × Value → H) :
    ReturnsInHanded {} Try.checked os 8 .any (Rows.dirUsesSpec.pre6 enc Try.prog Try.f8 Rows.dirUsesRow.domain false) (Rows.dirUsesSpec.post enc Try.prog Try.f8 false true false false) := by
  refine returnsInHanded_of_change (C := Try.checked) own started (by kernel_rfl) Try.func8
    (ChangeSpec.witness6 (enc := enc) (C := Try.checked) false ⟨#[], #[.slice none 0 0, .agg #[.string ByteArray.empty, .int .i64 0, .slice none 0 0]], []⟩ 8 (by kernel_rfl) (by kernel_rfl) (by kernel_rfl) (by kernel_rfl)) ?_
  intro W base args ds gs before hval0 hW _ _
  have hval : ∀ (j : Nat) t v, Try.f8.params[j]? = some t → args[j]? = some v → Value.okWide Try.prog W .any base t v := hval0
  have hW' := hW
  obtain ⟨p, q, hA0, hV, rfl, hfz, hnd⟩ := hW
  have hA : DataW.TrodAll enc Try.prog W 0 (fun _ => true) true Try.f8.params.toList args.toList ds p := hA0
  rw [Try.params8] at hA hval
  obtain ⟨v0, vs0, d0, ds0, p0, q0, hargs, rfl, rfl, h0, r0⟩ := trodAll_cons hA
  obtain ⟨v1, vs1, d1, ds1, p1, q1, rfl, rfl, rfl, h1, r1⟩ := trodAll_cons r0
  obtain ⟨rfl, rfl, rfl⟩ := trodAll_nil r1
  obtain rfl : args = #[v0, v1] := by cases args; simp_all
  obtain ⟨rfl, rfl⟩ := trodVars_none hV
  obtain ⟨a0, len0, cap0, rfl⟩ := okWide_slice Try.underlying24 (hval 0 24 v0 rfl rfl)
  have k0 := h0
  have lt0 : ∀ x ∈ p0, x.block < W.heap.size := by obtain ⟨m, hm⟩ := k0; exact DataW.trod_lt m _ _ _ hm
  obtain ⟨z0, w0⟩ : ∃ zs, IsFiles W a0 len0 cap0 zs := by
    obtain ⟨fuel, hf⟩ := h0
    exact open_files hf
  have k1 := h1
  have lt1 : ∀ x ∈ p1, x.block < W.heap.size := by obtain ⟨m, hm⟩ := k1; exact DataW.trod_lt m _ _ _ hm
  obtain ⟨f1, g1, c1, rfl, w1⟩ := open_file (hval 1 35 v1 rfl rfl) h1
  clear hA0 hval0
  refine (walk a0 len0 cap0 z0 f1 g1 c1 W w0 w1).mono fun e W' ⟨he, bel⟩ => ?_
  subst he
  exact ⟨_, rfl, _, _, _, [], _, [], hW', trodAll_mk1 (shut_bool Try.underlying4 _), (trodAll_cons_mk (Below.trod laidOut (by kernel_rfl) (of_decide_eq_true (by kernel_rfl)) k0 bel lt0) (trodAll_cons_mk (Below.trod laidOut (by kernel_rfl) (of_decide_eq_true (by kernel_rfl)) k1 bel lt1) trodAll_mk0)), rfl, bel.frame _, fun h => by cases h⟩

theorem holds : Rows.DirUsesSaid :=
  OpenClaim.holds_of_wide 8 Try.f8 rfl rfl rfl rfl rfl rfl rfl ⟨rfl, rfl, rfl, rfl, rfl⟩ rfl rfl rfl rfl rfl (by kernel_rfl) Try.func8 (by kernel_rfl)
    (of_decide_eq_true (by kernel_rfl)) (by unfold Func.isWrapper; first | (rw [if_pos (by decide +kernel)]; kernel_rfl) | (rw [if_neg (by decide +kernel)]; exact ⟨rfl, rfl⟩))
    (fun os started H enc _ => lifted os started H enc)

end Go.Proofs.Yteellffkjjllgaa.dirUses
