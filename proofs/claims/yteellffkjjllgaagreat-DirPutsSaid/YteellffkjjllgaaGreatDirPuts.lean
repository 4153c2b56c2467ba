/-
  DirPuts: for every input the law answers true: whether files have no sector twice, all their spans, and a directory as bytes, or what is wrong, are as the document says. Conditions: none.
-/
import Derived.Test.YteellffkjjllgaaGreatQDrRightR
namespace Go.Proofs.YteellffkjjllgaaGreat.dirPuts
open Go.ChangeShapes Go.WideShapes Go.ChangeAt Go.RowKit Go.Rc5 Go.Rc6 Go.Rc7
open Go.ChangeMaps (open_string shut_string)

open Classical in
set_option maxRecDepth 100000 in
set_option maxHeartbeats 8000000 in
theorem walk (a : Option Addr) (n c : Nat) (L : List Fl) (size : Int) (_ : (Lit.int .i64 size).wf = true) (o : Option Addr) (m d : Nat) (own : List SpI) (w : World) (h : IsFiles w a n c L) (ho : IsSpans w o m own) :
    Calls Tryz.prog 3 #[.slice a n c, .int .i64 size, .slice o m d] w fun e w' => e = .returned (.bool true) ∧ Below w.heap.size w w' := by
  have HI := Lib.hid (fun W (hW : Below w.heap.size w W) => IsFiles.below h hW)
  have HO := Lib.hid (fun W (hW : Below w.heap.size w W) => SpansAt.below ho.2.1 hW)
  have HOM := Lib.hid ho.1
  have HOI : Hid (∀ s ∈ own, In64 s.1) := fun s hs => (ho.2.2 s hs).1
  clear h ho
  go_enter Tryz.func3, Tryz.ntmps3
  go_wp2_with fail
  refine (shown_any _).mono ?_
  rintro e w1 ⟨rfl, hb1⟩
  have hI := HI.out _ hb1
  have HSm := Lib.hid (small_any L a n c w1 hI.at_ hI.size)
  have HB := Lib.hid hb1
  clear hb1 hI
  go_wp2_with fail
  refine HSm.out.mono ?_
  rintro e w2 ⟨⟨b, rfl, hsm⟩, rfl⟩
  have HSM := Lib.hid hsm
  clear HSm hsm
  cases b with
  | false =>
    go_wp2
    go_ret
    exact ⟨rfl, HB.out⟩
  | true =>
    by_cases hm : m ≤ 20
    · have hm' : ¬ (20 : Int) < m := by omega
      have HM := Lib.hid (HSM.out rfl)
      have hI := HI.out _ HB.out
      have hn : n ≤ 130 := by rw [← hI.size]; exact HM.out.many
      have HLn := Lib.hid hI.size
      have HOK := Lib.hid hI.ok
      have HNS : Hid (∀ f ∈ L, f.name.size ≤ 140737488355328 ∧ f.spans.length ≤ 100000) := fun g hg => ⟨by have := HM.out.name g hg; omega, by have := HM.out.spans g hg; omega⟩
      have HUB : Hid ((usedL L).length ≤ 100000) := by
        have h1 := used_bound HM.out.spans
        have h2 := HM.out.many
        unfold Hid
        omega
      have HAs := Lib.hid (as_any L a n c w2 hI.at_ hI.size (by omega))
      obtain ⟨P, x, hP, hPD⟩ : ∃ (P : ByteArray) (x : Int), (∀ W, Below w.heap.size w W → Calls Tryz.prog 7 #[.slice a n c] W fun e w' => e = .returned (.tuple #[.string P, .int .i64 x]) ∧ Below W.heap.size W w') ∧ (∀ W y k, FilesAt W y L → Calls Tryz.prog 8 #[.slice y n k] W fun e w' => e = .returned (.tuple #[.string P, .int .i64 x]) ∧ Below W.heap.size W w') := by
        by_cases hd : Dir L
        · exact ⟨_, _, fun W hW => Put_yes L a n c W (HI.out W hW).at_ HLn.out hd, fun W y k hy => PutD_yes L y n k W hy HLn.out hd⟩
        · exact ⟨_, _, fun W hW => Put_no L HOK.out a n c W (HI.out W hW).at_ HLn.out hd, fun W y k hy => PutD_no L y n k W hy HLn.out (by omega) HNS.out hd⟩
      have HP := Lib.hid hP
      have HPD := Lib.hid hPD
      have hpp : (P.toList == P.toList) = true := beq_self_eq_true _
      have hxx : (x == x) = true := beq_self_eq_true _
      clear hI HSM HM hP hPD
      go_wp2_with fail
      refine HAs.out.mono ?_
      rintro e w3 ⟨a3, c3, rfl, hf3, hb3⟩
      rw [HLn.out]
      replace HB := Lib.hid (below_trans HB.out hb3)
      have HFK : Hid (∀ W, Below w3.heap.size w3 W → FilesAt W a3 L) := fun W hW => FilesAt.below hf3 hW
      have HP1 := Lib.hid (HP.out _ HB.out)
      clear hb3 hf3 HAs HP
      go_wp2_with fail
      refine HP1.out.mono ?_
      rintro e w4 ⟨rfl, hb4⟩
      replace HB := Lib.hid (below_trans HB.out hb4)
      have HB3 := Lib.hid hb4
      have HP2 := Lib.hid (HPD.out _ _ c3 (HFK.out _ hb4))
      clear hb4 HP1 HPD
      go_wp2_with fail
      refine HP2.out.mono ?_
      rintro e w5 ⟨rfl, hb5⟩
      replace HB := Lib.hid (below_trans HB.out hb5)
      replace HB3 := Lib.hid (below_trans HB3.out hb5)
      have hRP := fun W (hW : Below w.heap.size w W) => RightP_any L HOK.out a n c size own o m d W (HI.out W hW).at_ HLn.out (HO.out W hW) HOM.out hm HOI.out
      have hRR := fun W (hW : Below w.heap.size w W) (hW3 : Below w3.heap.size w3 W) => RightR_any L a3 n c3 size own o m d W (HFK.out W hW3) HLn.out (by omega) HNS.out (HO.out W hW) HOM.out hm
      generalize decide (RightQ L size own) = q at hRP hRR
      have hqq : (q == q) = true := beq_self_eq_true _
      have HRP := Lib.hid hRP
      have HRR := Lib.hid hRR
      clear hRP hRR hb5 HP2
      have HX := Lib.hid (HRP.out _ HB.out)
      go_wp2_with fail
      refine HX.out.mono ?_
      rintro e w6 ⟨rfl, hb6⟩
      replace HB := Lib.hid (below_trans HB.out hb6)
      replace HB3 := Lib.hid (below_trans HB3.out hb6)
      have HX2 := Lib.hid (HRR.out _ HB.out HB3.out)
      clear hb6 HX HRP HRR
      go_wp2_with fail
      refine HX2.out.mono ?_
      rintro e w7 ⟨rfl, hb7⟩
      replace HB := Lib.hid (below_trans HB.out hb7)
      replace HB3 := Lib.hid (below_trans HB3.out hb7)
      have HU := Lib.hid (Used_any L a n c w7 (HI.out _ HB.out).at_ HLn.out (by omega) (by rw [← used_len]; have := HUB.out; omega))
      clear hb7 HX2
      go_wp2_with fail
      refine HU.out.mono ?_
      rintro e w8 ⟨a8, c8, rfl, hs8, hb8⟩
      replace HB := Lib.hid (below_trans HB.out hb8)
      replace HB3 := Lib.hid (below_trans HB3.out hb8)
      have HS8 := Lib.hid hs8
      have HU2 := Lib.hid (UsedR_any L a3 n c3 w8 (HFK.out _ HB3.out) HLn.out (by omega) (by have := HUB.out; omega))
      clear hs8 hb8 HU
      go_wp2_with fail
      refine HU2.out.mono ?_
      rintro e w9 ⟨v, rfl, hF⟩
      obtain ⟨O, ⟨ho, _⟩, hb9, _⟩ := hF
      obtain ⟨a9, c9, rfl⟩ := own_slice ho
      have hs9 := (spans_own ho).2
      replace HB := Lib.hid (below_trans HB.out hb9)
      have hS := same_any (usedL L) (usedL L) a8 a9 c8 c9 _ _ w9 (SpansAt.below HS8.out hb9) hs9 rfl rfl (by have := HUB.out; omega)
      rw [decide_eq_true (rfl : usedL L = usedL L)] at hS
      have HS := Lib.hid hS
      clear hS hs9 ho hb9 HS8 HU2
      go_wp2_with fail
      refine HS.out.mono ?_
      rintro e w10 ⟨rfl, hb10⟩
      replace HB := Lib.hid (below_trans HB.out hb10)
      clear hb10 HS
      go_wp2
      go_ret
      exact ⟨rfl, HB.out⟩
    · have hm' : (20 : Int) < m := by omega
      go_wp2
      go_ret
      exact ⟨rfl, HB.out⟩

set_option maxRecDepth 100000 in
theorem lifted (os : Os) (started : os.Started) (H : Type) (enc : TypeId × Value → H) :
    ReturnsInHanded {} Tryz.checked os 3 .any (Rows.dirPutsSpec.pre6 enc Tryz.prog Tryz.f3 Rows.dirPutsRow.domain false) (Rows.dirPutsSpec.post enc Tryz.prog Tryz.f3 false true false false) := by
  refine returnsInHanded_of_change (C := Tryz.checked) own started (by kernel_rfl) Tryz.func3
    (ChangeSpec.witness6 (enc := enc) (C := Tryz.checked) false ⟨#[], #[.slice none 0 0, .int .i64 0, .slice none 0 0], []⟩ 8 (by kernel_rfl) (by kernel_rfl) (by kernel_rfl) (by kernel_rfl)) ?_
  intro W base args ds gs before hval0 hW _ _
  have hval : ∀ (j : Nat) t v, Tryz.f3.params[j]? = some t → args[j]? = some v → Value.okWide Tryz.prog W .any base t v := hval0
  have hW' := hW
  obtain ⟨p, q, hA0, hV, rfl, hfz, hnd⟩ := hW
  have hA : DataW.TrodAll enc Tryz.prog W 0 (fun _ => true) true Tryz.f3.params.toList args.toList ds p := hA0
  rw [Tryz.params3] at hA hval
  obtain ⟨v0, vs0, d0, ds0, p0, q0, hargs, rfl, rfl, h0, r0⟩ := trodAll_cons hA
  obtain ⟨v1, vs1, d1, ds1, p1, q1, rfl, rfl, rfl, h1, r1⟩ := trodAll_cons r0
  obtain ⟨v2, vs2, d2, ds2, p2, q2, rfl, rfl, rfl, h2, r2⟩ := trodAll_cons r1
  obtain ⟨rfl, rfl, rfl⟩ := trodAll_nil r2
  obtain rfl : args = #[v0, v1, v2] := by cases args; simp_all
  obtain ⟨rfl, rfl⟩ := trodVars_none hV
  obtain ⟨a0, len0, cap0, rfl⟩ := okWide_slice Tryz.underlying22 (hval 0 22 v0 rfl rfl)
  have k0 := h0
  have lt0 : ∀ x ∈ p0, x.block < W.heap.size := by obtain ⟨m, hm⟩ := k0; exact DataW.trod_lt m _ _ _ hm
  obtain ⟨z0, w0⟩ : ∃ zs, IsFiles W a0 len0 cap0 zs := by
    obtain ⟨fuel, hf⟩ := h0
    exact open_files hf
  obtain ⟨a1, rfl, rfl, rfl, w1⟩ := open_int Tryz.underlying3 (hval 1 3 v1 rfl rfl) h1
  obtain ⟨a2, len2, cap2, rfl⟩ := okWide_slice Tryz.underlying23 (hval 2 23 v2 rfl rfl)
  have k2 := h2
  have lt2 : ∀ x ∈ p2, x.block < W.heap.size := by obtain ⟨m, hm⟩ := k2; exact DataW.trod_lt m _ _ _ hm
  obtain ⟨z2, w2⟩ : ∃ zs, IsSpans W a2 len2 zs := by
    obtain ⟨fuel, hf⟩ := h2
    exact open_spans hf
  clear hA0 hval0
  refine (walk a0 len0 cap0 z0 a1 w1 a2 len2 cap2 z2 W w0 w2).mono fun e W' ⟨he, bel⟩ => ?_
  subst he
  exact ⟨_, rfl, _, _, _, [], _, [], hW', trodAll_mk1 (shut_bool Tryz.underlying4 _), (trodAll_cons_mk (Below.trod laidOut (by kernel_rfl) (of_decide_eq_true (by kernel_rfl)) k0 bel lt0) (trodAll_cons_mk (shut_int Tryz.underlying3 w1) (trodAll_cons_mk (Below.trod laidOut (by kernel_rfl) (of_decide_eq_true (by kernel_rfl)) k2 bel lt2) trodAll_mk0))), rfl, bel.frame _, fun h => by cases h⟩

theorem holds : Rows.DirPutsSaid :=
  OpenClaim.holds_of_wide 3 Tryz.f3 rfl rfl rfl rfl rfl rfl rfl ⟨rfl, rfl, rfl, rfl, rfl⟩ rfl rfl rfl rfl rfl (by kernel_rfl) Tryz.func3 (by kernel_rfl)
    (of_decide_eq_true (by kernel_rfl)) (by unfold Func.isWrapper; first | (rw [if_pos (by decide +kernel)]; kernel_rfl) | (rw [if_neg (by decide +kernel)]; exact ⟨rfl, rfl⟩))
    (fun os started H enc _ => lifted os started H enc)

end Go.Proofs.YteellffkjjllgaaGreat.dirPuts
