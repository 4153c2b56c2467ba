/-
  DirFiles: for every input the law answers true: a file that is put in, and one that is left out, make of a directory what the document says; what is found is it. Conditions: none.
-/
import Derived.Test.YteellffkjjllgaaQDrRef
namespace Go.Proofs.Yteellffkjjllgaa.dirFiles
open Go.ChangeShapes Go.WideShapes Go.ChangeAt Go.RowKit Go.Rc5 Go.Rc6 Go.Rc7
open Go.ChangeMaps (open_string shut_string)

open Classical in
set_option maxRecDepth 100000 in
set_option maxHeartbeats 8000000 in
theorem walk (a : Option Addr) (n c : Nat) (L : List Fl) (f : Fl) (p : Option Addr) (cp : Nat) (nm : ByteArray) (_ : nm.size ≤ maxLen) (w : World) (h : IsFiles w a n c L) (hf : IsFile w p f) (hz : f.spans.length ≤ 8796093022208) :
    Calls Try.prog 4 #[.slice a n c, .agg #[.string f.name, .int .i64 f.size, .slice p f.spans.length cp], .string nm] w fun e w' => e = .returned (.bool true) ∧ Below w.heap.size w w' := by
  have HI := Lib.hid (fun W (hW : Below w.heap.size w W) => IsFiles.below h hW)
  have HSF := Lib.hid (fun W (hW : Below w.heap.size w W) => SpansAt.below hf.at_ hW)
  have HC := Lib.hid ((Crew.start w).block #[.string f.name, .int .i64 f.size, .slice p f.spans.length cp] 35)
  have HZ := Lib.hid hz
  clear h hf hz
  go_enter Try.func4, Try.ntmps4
  go_wp2_with fail
  refine (shown_any _).mono ?_
  rintro e w1 ⟨rfl, hb1⟩
  replace HC := Lib.hid (HC.out.below hb1)
  have hI := HI.out _ HC.out.bel
  have HSm := Lib.hid (small_any L a n c w1 hI.at_ hI.size)
  clear hb1 hI
  go_wp2_with fail
  refine HSm.out.mono ?_
  rintro e w2 ⟨⟨b, rfl, hsm⟩, rfl⟩
  have HSM := Lib.hid hsm
  clear HSm hsm
  have d0 := (HC.out.at 0 rfl (j := 0) rfl).1
  cases b with
  | false =>
    have HB := Lib.hid HC.out.bel
    go_wp2
    go_ret
    exact ⟨rfl, HB.out⟩
  | true =>
    by_cases g1 : f.name.size ≤ 150
    · have g1' : ¬ (150 : Int) < f.name.size := by omega
      by_cases g2 : nm.size ≤ 150
      · have g2' : ¬ (150 : Int) < nm.size := by omega
        have HM := Lib.hid (HSM.out rfl)
        have hI := HI.out _ HC.out.bel
        have hn : n ≤ 130 := by rw [← hI.size]; exact HM.out.many
        have HLn := Lib.hid hI.size
        have HNC := Lib.hid hI.room
        have HAs := Lib.hid (as_any L a n c w2 hI.at_ hI.size (by omega))
        clear hI HSM
        go_wp2_with fail
        refine HAs.out.mono ?_
        rintro e w3 ⟨a3, c3, rfl, hf3, hb3⟩
        rw [HLn.out]
        replace HC := Lib.hid (HC.out.below hb3)
        have HFK : Hid (∀ W, Below w3.heap.size w3 W → FilesAt W a3 L) := fun W hW => FilesAt.below hf3 hW
        have hIs := Is_any L a3 n c3 w3 hf3 HLn.out (by omega) (fun g hg => ⟨by have := HM.out.name g hg; omega, by have := HM.out.spans g hg; omega⟩)
        clear hb3 hf3 HAs d0
        by_cases hd : Dir L
        · rw [decide_eq_true hd] at hIs
          have HIs := Lib.hid hIs
          have HR := Lib.hid hd.rises
          have HLS : Hid (∀ g ∈ L, g.spans.length ≤ 210) := HM.out.spans
          clear hIs hd HM
          go_wp2_with fail
          refine HIs.out.mono ?_
          rintro e w4 ⟨rfl, hb4⟩
          replace HC := Lib.hid (HC.out.below hb4)
          replace HFK : Hid (∀ W, Below w4.heap.size w4 W → FilesAt W a3 L) := fun W hW => HFK.out W (below_trans hb4 hW)
          have d0 := (HC.out.at 0 rfl (j := 0) rfl).1
          have d1 := (HC.out.at 0 rfl (j := 1) rfl).1
          have d2 := (HC.out.at 0 rfl (j := 2) rfl).1
          have HBa := Lib.hid ((Below.refl w4.heap.size w4).alloc (Nat.le_refl _) (.cells #[.string f.name, .int .i64 f.size, .slice p f.spans.length cp] 35))
          have HA := Lib.hid (as_one (c := 1) (one_any (c := cp) (t := 35) (HSF.out _ HC.out.bel)))
          clear hb4 HIs
          go_wp2_with fail
          refine HA.out.mono ?_
          rintro e w5 ⟨a5, c5, rfl, hf5, hb5⟩
          have hb45 := below_trans HBa.out hb5
          replace HC := Lib.hid (HC.out.below hb45)
          replace HFK : Hid (∀ W, Below w5.heap.size w5 W → FilesAt W a3 L) := fun W hW => HFK.out W (below_trans hb45 hW)
          obtain ⟨x5, rfl, e0, e1, p5, cp5, e2, hs5⟩ := hf5 0 Nat.zero_lt_one
          have c0 : w5.cell? x5 = some (.string f.name) := e0
          have c1 : w5.cell? ⟨x5.block, x5.off + 1, none⟩ = some (.int .i64 f.size) := e1
          have c2 : w5.cell? ⟨x5.block, x5.off + 2, none⟩ = some (.slice p5 f.spans.length cp5) := e2
          have HS5 : Hid (∀ W, Below w5.heap.size w5 W → SpansAt W p5 f.spans) := fun W hW => SpansAt.below hs5 hW
          have hba := (Below.refl w5.heap.size w5).alloc (Nat.le_refl _) (.cells #[.string f.name, .int .i64 f.size, .slice p5 f.spans.length cp5] 39)
          replace HC := Lib.hid (HC.out.block #[.string f.name, .int .i64 f.size, .slice p5 f.spans.length cp5] 39)
          have HB6 := Lib.hid hba
          have hI := HI.out _ HC.out.bel
          obtain ⟨⟨g, b⟩, hX⟩ : ∃ X : Fl × Bool, resF (findL L nm) = X := ⟨_, rfl⟩
          have HGS : Hid (g.spans.length ≤ 8796093022208) := by
            have h := resF_spans (nm := nm) HLS.out
            rw [hX] at h
            unfold Hid
            have h2 : g.spans.length ≤ 210 := h
            omega
          have HFd := Lib.hid (Find_res L nm a n c _ hI.at_ HLn.out (by omega) (fun g hg => by have := HLS.out g hg; omega) hX)
          have HFr := Lib.hid (fun W hW => FindR_res L nm a3 n c3 W (HFK.out W hW) HLn.out (by omega) hX)
          clear hb5 hb45 hf5 hs5 e0 e1 e2 hba hI HA HBa d0 d1 d2 hX
          go_wp2_with fail
          refine HFd.out.mono ?_
          rintro e w7 ⟨px, cx, rfl, hsx, hb7⟩
          have hal7 := (Below.refl w7.heap.size w7).alloc (Nat.le_refl _) (.cells #[.string g.name, .int .i64 g.size, .slice px g.spans.length cx] 35)
          have HSX0 : Hid (∀ W, Below w7.heap.size w7 W → SpansAt W px g.spans) := fun W hW => SpansAt.below hsx hW
          replace HC := Lib.hid ((HC.out.below hb7).block #[.string g.name, .int .i64 g.size, .slice px g.spans.length cx] 35)
          replace HB6 := Lib.hid (below_trans (below_trans HB6.out hb7) hal7)
          have HB7 := Lib.hid hal7
          have HR2 := Lib.hid (HFr.out _ HB6.out)
          clear hsx hb7 hal7 HFd HFr c0 c1 c2
          go_wp2_with fail
          refine HR2.out.mono ?_
          rintro e w8 ⟨py, cy, rfl, hsy, hb8⟩
          have hal8 := (Below.refl w8.heap.size w8).alloc (Nat.le_refl _) (.cells #[.string g.name, .int .i64 g.size, .slice py g.spans.length cy] 39)
          replace HC := Lib.hid ((HC.out.below hb8).block #[.string g.name, .int .i64 g.size, .slice py g.spans.length cy] 39)
          replace HB6 := Lib.hid (below_trans (below_trans HB6.out hb8) hal8)
          replace HB7 := Lib.hid (below_trans (below_trans HB7.out hb8) hal8)
          have HSY0 := Lib.hid (SpansAt.below hsy hal8)
          have HSX1 := Lib.hid (HSX0.out _ HB7.out)
          clear hsy hb8 hal8 HR2
          have hbb : (b == b) = true := beq_self_eq_true b
          go_upto_region 11 with fail
          generalize w8.alloc (.cells #[.string g.name, .int .i64 g.size, .slice py g.spans.length cy] 39) = w9 at *
          have X0 := (HC.out.at 0 rfl (j := 0) rfl).1
          have X1 := (HC.out.at 0 rfl (j := 1) rfl).1
          have X2 := (HC.out.at 0 rfl (j := 2) rfl).1
          have Y0 := (HC.out.at 1 rfl (j := 0) rfl).1
          have Y1 := (HC.out.at 1 rfl (j := 1) rfl).1
          have Y2 := (HC.out.at 1 rfl (j := 2) rfl).1
          have U0 := (HC.out.at 2 rfl (j := 0) rfl).1
          have U1 := (HC.out.at 2 rfl (j := 1) rfl).1
          have U2 := (HC.out.at 2 rfl (j := 2) rfl).1
          have V0 := (HC.out.at 3 rfl (j := 0) rfl).1
          have V1 := (HC.out.at 3 rfl (j := 1) rfl).1
          have V2 := (HC.out.at 3 rfl (j := 2) rfl).1
          have KEEP : Hid (∀ W, Below w9.heap.size w9 W → W.cell? ⟨w.heap.size, 0, none⟩ = some (.string f.name) ∧ W.cell? ⟨w.heap.size, 1, none⟩ = some (.int .i64 f.size) ∧ W.cell? ⟨w.heap.size, 2, none⟩ = some (.slice p f.spans.length cp) ∧ W.cell? ⟨w5.heap.size, 0, none⟩ = some (.string f.name) ∧ W.cell? ⟨w5.heap.size, 1, none⟩ = some (.int .i64 f.size) ∧ W.cell? ⟨w5.heap.size, 2, none⟩ = some (.slice p5 f.spans.length cp5) ∧ W.cell? ⟨w7.heap.size, 0, none⟩ = some (.string g.name) ∧ W.cell? ⟨w7.heap.size, 1, none⟩ = some (.int .i64 g.size) ∧ W.cell? ⟨w7.heap.size, 2, none⟩ = some (.slice px g.spans.length cx) ∧ W.cell? ⟨w8.heap.size, 0, none⟩ = some (.string g.name) ∧ W.cell? ⟨w8.heap.size, 1, none⟩ = some (.int .i64 g.size) ∧ W.cell? ⟨w8.heap.size, 2, none⟩ = some (.slice py g.spans.length cy)) := fun W hW => ⟨keeps hW _ _ X0, keeps hW _ _ X1, keeps hW _ _ X2, keeps hW _ _ Y0, keeps hW _ _ Y1, keeps hW _ _ Y2, keeps hW _ _ U0, keeps hW _ _ U1, keeps hW _ _ U2, keeps hW _ _ V0, keeps hW _ _ V1, keeps hW _ _ V2⟩
          have HBel := Lib.hid HC.out.bel
          obtain ⟨X, hXe⟩ : ∃ X, withL L f = X := ⟨_, rfl⟩
          obtain ⟨Y, hYe⟩ : ∃ Y, withoutL L nm = Y := ⟨_, rfl⟩
          have HSX : Hid (∀ W a b ca cb, FilesAt W a X → FilesAt W b X → Calls Try.prog 13 #[.slice a X.length ca, .slice b X.length cb] W fun e w' => e = .returned (.bool true) ∧ Below W.heap.size W w') := by
            subst hXe
            refine same_wide_self (by have := with_length L f; have := HLn.out; omega) (fun g hg => ?_)
            rcases mem_with hg with rfl | hg
            · exact HZ.out
            · have := HLS.out g hg; omega
          have HSY : Hid (∀ W a b ca cb, FilesAt W a Y → FilesAt W b Y → Calls Try.prog 13 #[.slice a Y.length ca, .slice b Y.length cb] W fun e w' => e = .returned (.bool true) ∧ Below W.heap.size W w') := by
            subst hYe
            refine same_wide_self (by have := without_length L nm; have := HLn.out; omega) (fun g hg => ?_)
            have := HLS.out g (mem_without hg)
            omega
          have HSO : Hid (∀ W a b ca cb, FilesAt W a [g] → FilesAt W b [g] → Calls Try.prog 13 #[.slice a 1 ca, .slice b 1 cb] W fun e w' => e = .returned (.bool true) ∧ Below W.heap.size W w') :=
            same_wide_self (A := [g]) (by simp) (fun k hk => by rw [List.mem_singleton.1 hk]; exact HGS.out)
          have H19 : Hid (∀ W, Below w9.heap.size w9 W → Calls Try.prog 19 #[.slice a n c, .agg #[.string f.name, .int .i64 f.size, .slice p f.spans.length cp]] W (FilesRead X W)) := fun W hW => by
            have hb := below_trans HBel.out hW
            have h := With_any L f a p n c cp W (HI.out W hb).at_ HLn.out (by omega) HNC.out (fun g hg => by have := HLS.out g hg; omega) (HSF.out W hb) HZ.out HR.out
            rw [hXe] at h
            exact h
          have H20 : Hid (∀ W, Below w9.heap.size w9 W → Calls Try.prog 20 #[.slice a3 n c3, .agg #[.string f.name, .int .i64 f.size, .slice p5 f.spans.length cp5]] W (FilesRead X W)) := fun W hW => by
            have hb := below_trans HB6.out hW
            have h := WithR_any L f a3 p5 n c3 cp5 W (HFK.out W hb) HLn.out (by omega) (HS5.out W hb) HR.out
            rw [hXe] at h
            exact h
          have H21 : Hid (∀ W, Below w9.heap.size w9 W → Calls Try.prog 21 #[.slice a n c, .string nm] W (FilesRead Y W)) := fun W hW => by
            have hb := below_trans HBel.out hW
            have h := Without_any L nm a n c W (HI.out W hb).at_ HLn.out (by omega) (fun g hg => by have := HLS.out g hg; omega)
            rw [hYe] at h
            exact h
          have H22 : Hid (∀ W, Below w9.heap.size w9 W → Calls Try.prog 22 #[.slice a3 n c3, .string nm] W (FilesRead Y W)) := fun W hW => by
            have hb := below_trans HB6.out hW
            have h := WithoutR_any L nm a3 n c3 W (HFK.out W hb) HLn.out (by omega)
            rw [hYe] at h
            exact h
          have HPX : Hid (∀ W, Below w9.heap.size w9 W → SpansAt W px g.spans) := fun W hW => SpansAt.below HSX1.out hW
          have HPY : Hid (∀ W, Below w9.heap.size w9 W → SpansAt W py g.spans) := fun W hW => SpansAt.below HSY0.out hW
          have HN := Lib.hid ((Below.refl w9.heap.size w9).drew)
          clear hXe hYe HC HB6 HB7 HSX0 HSX1 HSY0 HS5 HFK HI HSF HR HLS HLn HNC HZ HGS
          go_region_held3 (fun W => W.cell? ⟨w.heap.size, 0, none⟩ = some (.string f.name) ∧ W.cell? ⟨w.heap.size, 1, none⟩ = some (.int .i64 f.size) ∧ W.cell? ⟨w.heap.size, 2, none⟩ = some (.slice p f.spans.length cp) ∧ W.cell? ⟨w5.heap.size, 0, none⟩ = some (.string f.name) ∧ W.cell? ⟨w5.heap.size, 1, none⟩ = some (.int .i64 f.size) ∧ W.cell? ⟨w5.heap.size, 2, none⟩ = some (.slice p5 f.spans.length cp5) ∧ W.cell? ⟨w7.heap.size, 0, none⟩ = some (.string g.name) ∧ W.cell? ⟨w7.heap.size, 1, none⟩ = some (.int .i64 g.size) ∧ W.cell? ⟨w7.heap.size, 2, none⟩ = some (.slice px g.spans.length cx) ∧ W.cell? ⟨w8.heap.size, 0, none⟩ = some (.string g.name) ∧ W.cell? ⟨w8.heap.size, 1, none⟩ = some (.int .i64 g.size) ∧ W.cell? ⟨w8.heap.size, 2, none⟩ = some (.slice py g.spans.length cy))
            (first
              | go_keep
              | exact KEEP.out _ HN.out)
            (first
              | (go_at_call 19; (with_reducible refine (H19.out _ HN.out).mono ?_); rintro e wA ⟨aA, cA, rfl, hfA, hbA⟩; have HA := Lib.hid hfA; replace HN := Lib.hid (below_trans HN.out hbA); clear hfA hbA)
              | (go_at_call 20; (with_reducible refine (H20.out _ HN.out).mono ?_); rintro e wB ⟨aB, cB, rfl, hfB, hbB⟩; replace HA := Lib.hid (FilesAt.below HA.out hbB); have HB := Lib.hid hfB; replace HN := Lib.hid (below_trans HN.out hbB); clear hfB hbB)
              | (go_at_call 21; (with_reducible refine (H21.out _ HN.out).mono ?_); rintro e wA2 ⟨aA, cA, rfl, hfA, hbA⟩; have HA := Lib.hid hfA; replace HN := Lib.hid (below_trans HN.out hbA); clear hfA hbA)
              | (go_at_call 22; (with_reducible refine (H22.out _ HN.out).mono ?_); rintro e wB2 ⟨aB, cB, rfl, hfB, hbB⟩; replace HA := Lib.hid (FilesAt.below HA.out hbB); have HB := Lib.hid hfB; replace HN := Lib.hid (below_trans HN.out hbB); clear hfB hbB)
              | (go_at_call 13; (with_reducible refine (HSX.out _ _ _ _ _ HA.out HB.out).mono ?_); rintro e wS ⟨rfl, hbS⟩; replace HN := Lib.hid (below_trans HN.out hbS); clear HA HB hbS HSX)
              | (go_at_call 13; (with_reducible refine (HSY.out _ _ _ _ _ HA.out HB.out).mono ?_); rintro e wz ⟨rfl, hbS⟩; replace HN := Lib.hid (below_trans HN.out hbS); have T1 := Lib.hid (two_any (t := 35) (u := 39) (c := cx) (d := cy) (HPX.out wz HN.out) (HPY.out wz HN.out)); have T2 := Lib.hid (two_any (t := 39) (u := 35) (c := cy) (d := cx) (HPY.out wz HN.out) (HPX.out wz HN.out)); have HO1 := Lib.hid (HSO.out _ _ _ 1 1 T1.out.1 T1.out.2.1); have HO2 := Lib.hid (HSO.out _ _ _ 1 1 T2.out.2.1 T2.out.1); clear HA HB hbS HSY)
              | (go_at_call 13; (with_reducible refine HO1.out.mono ?_); rintro e wF ⟨rfl, hbS⟩; replace HN := Lib.hid (below_trans (below_trans HN.out T1.out.2.2) hbS); clear hbS T1 T2 HO1 HO2)
              | (go_at_call 13; (with_reducible refine HO2.out.mono ?_); rintro e wF ⟨rfl, hbS⟩; replace HN := Lib.hid (below_trans (below_trans HN.out T2.out.2.2) hbS); clear hbS T1 T2 HO1 HO2))
          all_goals
            have HE := Lib.hid (below_trans HBel.out HN.out)
            go_wp2
            go_ret
            exact ⟨rfl, HE.out⟩
        · rw [decide_eq_false hd] at hIs
          have HIs := Lib.hid hIs
          clear hIs hd
          go_wp2_with fail
          refine HIs.out.mono ?_
          rintro e w4 ⟨rfl, hb4⟩
          have HB := Lib.hid (HC.out.below hb4).bel
          clear hb4
          go_wp2
          go_ret
          exact ⟨rfl, HB.out⟩
      · have g2' : (150 : Int) < nm.size := by omega
        have HB := Lib.hid HC.out.bel
        go_wp2
        go_ret
        exact ⟨rfl, HB.out⟩
    · have g1' : (150 : Int) < f.name.size := by omega
      have HB := Lib.hid HC.out.bel
      go_wp2
      go_ret
      exact ⟨rfl, HB.out⟩

set_option maxRecDepth 100000 in
theorem lifted (os : Os) (started : os.Started) (H : Type) (enc : TypeId × Value → H) :
    ReturnsInHanded {} Try.checked os 4 .any (Rows.dirFilesSpec.pre6 enc Try.prog Try.f4 Rows.dirFilesRow.domain false) (Rows.dirFilesSpec.post enc Try.prog Try.f4 false true false false) := by
  refine returnsInHanded_of_change_sized (C := Try.checked) own started (by kernel_rfl) Try.func4
    (ChangeSpec.witness6 (enc := enc) (C := Try.checked) false ⟨#[], #[.slice none 0 0, .agg #[.string ByteArray.empty, .int .i64 0, .slice none 0 0], .string ByteArray.empty], []⟩ 8 (by kernel_rfl) (by kernel_rfl) (by kernel_rfl) (by kernel_rfl)) ?_
  intro W base args ds gs before hval0 hW _ hsz0 _
  have hsz : (DataW.weightsEach Try.prog (Try.f4.params.toList ++ Rows.dirFilesSpec.plain.varTypes Try.prog) (ds ++ gs)).all (· ≤ reachBytes) = true := hsz0
  have hval : ∀ (j : Nat) t v, Try.f4.params[j]? = some t → args[j]? = some v → Value.okWide Try.prog W .any base t v := hval0
  have hW' := hW
  obtain ⟨p, q, hA0, hV, rfl, hfz, hnd⟩ := hW
  have hA : DataW.TrodAll enc Try.prog W 0 (fun _ => true) true Try.f4.params.toList args.toList ds p := hA0
  rw [Try.params4] at hA hval hsz
  obtain ⟨v0, vs0, d0, ds0, p0, q0, hargs, rfl, rfl, h0, r0⟩ := trodAll_cons hA
  obtain ⟨v1, vs1, d1, ds1, p1, q1, rfl, rfl, rfl, h1, r1⟩ := trodAll_cons r0
  obtain ⟨v2, vs2, d2, ds2, p2, q2, rfl, rfl, rfl, h2, r2⟩ := trodAll_cons r1
  obtain ⟨rfl, rfl, rfl⟩ := trodAll_nil r2
  obtain rfl : args = #[v0, v1, v2] := by cases args; simp_all
  obtain ⟨rfl, rfl⟩ := trodVars_none hV
  obtain ⟨a0, len0, cap0, rfl⟩ := okWide_slice Try.underlying24 (hval 0 24 v0 rfl rfl)
  have k0 := h0
  have lt0 : ∀ x ∈ p0, x.block < W.heap.size := by obtain ⟨m, hm⟩ := k0; exact DataW.trod_lt m _ _ _ hm
  obtain ⟨z0, w0⟩ : ∃ zs, IsFiles W a0 len0 cap0 zs := by
    obtain ⟨fuel, hf⟩ := h0
    exact open_files hf
  have k1 := h1
  have lt1 : ∀ x ∈ p1, x.block < W.heap.size := by obtain ⟨m, hm⟩ := k1; exact DataW.trod_lt m _ _ _ hm
  obtain ⟨f1, g1, c1, rfl, w1, s1⟩ := open_file_sized hsz (j := 1) rfl rfl (hval 1 35 v1 rfl rfl) h1
  obtain ⟨a2, rfl, rfl, rfl, w2⟩ := open_string Try.underlying9 (hval 2 9 v2 rfl rfl) h2
  clear hA0 hval0
  refine (walk a0 len0 cap0 z0 f1 g1 c1 a2 w2 W w0 w1 s1).mono fun e W' ⟨he, bel⟩ => ?_
  subst he
  exact ⟨_, rfl, _, _, _, [], _, [], hW', trodAll_mk1 (shut_bool Try.underlying4 _), (trodAll_cons_mk (Below.trod laidOut (by kernel_rfl) (of_decide_eq_true (by kernel_rfl)) k0 bel lt0) (trodAll_cons_mk (Below.trod laidOut (by kernel_rfl) (of_decide_eq_true (by kernel_rfl)) k1 bel lt1) (trodAll_cons_mk (shut_string Try.underlying9 w2) trodAll_mk0))), rfl, bel.frame _, fun h => by cases h⟩

theorem holds : Rows.DirFilesSaid :=
  OpenClaim.holds_of_wide 4 Try.f4 rfl rfl rfl rfl rfl rfl rfl ⟨rfl, rfl, rfl, rfl, rfl⟩ rfl rfl rfl rfl rfl (by kernel_rfl) Try.func4 (by kernel_rfl)
    (of_decide_eq_true (by kernel_rfl)) (by unfold Func.isWrapper; first | (rw [if_pos (by decide +kernel)]; kernel_rfl) | (rw [if_neg (by decide +kernel)]; exact ⟨rfl, rfl⟩))
    (fun os started H enc _ => lifted os started H enc)

end Go.Proofs.Yteellffkjjllgaa.dirFiles
