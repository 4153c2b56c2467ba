/-
  DirKeeps: for every input the law answers true: what was put in is found, and what was left out is not; all others are as they were; names stay in order. Conditions: none.
-/
import Derived.Test.YteellffkjjllgaaQDrKeep
namespace Go.Proofs.Yteellffkjjllgaa.dirKeeps
open Go.ChangeShapes Go.WideShapes Go.ChangeAt Go.RowKit Go.Rc5 Go.Rc6 Go.Rc7
open Go.ChangeMaps (open_string shut_string)

set_option maxRecDepth 100000 in
set_option maxHeartbeats 8000000 in
theorem walk (a : Option Addr) (n c : Nat) (L : List Fl) (f : Fl) (p : Option Addr) (cp : Nat) (w : World) (h : IsFiles w a n c L) (hf : IsFile w p f) :
    Calls Try.prog 6 #[.slice a n c, .agg #[.string f.name, .int .i64 f.size, .slice p f.spans.length cp]] w fun e w' => e = .returned (.bool true) ∧ Below w.heap.size w w' := by
  have HI := Lib.hid (fun W (hW : Below w.heap.size w W) => IsFiles.below h hW)
  have HSF := Lib.hid (fun W (hW : Below w.heap.size w W) => SpansAt.below hf.at_ hW)
  obtain ⟨P, x, hP, hPx⟩ := h.put
  have HP := Lib.hid hP
  have HPX := Lib.hid hPx
  have HOne := Lib.hid (fun W (hW : Below w.heap.size w W) => hf.one cp hW)
  have HC := Lib.hid ((Crew.start w).block #[.string f.name, .int .i64 f.size, .slice p f.spans.length cp] 35)
  clear h hP hPx hf
  go_enter Try.func6, Try.ntmps6
  go_wp2_with fail
  refine (shown_any _).mono ?_
  rintro e w1 ⟨rfl, hb1⟩
  replace HC := Lib.hid (HC.out.below hb1)
  have hI := HI.out _ HC.out.bel
  have HSm := Lib.hid (small_any L a n c w1 hI.at_ hI.size)
  clear hb1 hI
  go_wp2_with fail
  refine HSm.out.mono ?_
  rintro e w2 ⟨⟨b, rfl, hsm⟩, rfl⟩
  have HSM := Lib.hid hsm
  clear HSm hsm
  go_wp2_with fail
  refine (HP.out _ HC.out.bel).mono ?_
  rintro e w3 ⟨rfl, hb3⟩
  replace HC := Lib.hid (HC.out.below hb3)
  have d0 := (HC.out.at 0 rfl (j := 0) rfl).1
  have d1 := (HC.out.at 0 rfl (j := 1) rfl).1
  have d2 := (HC.out.at 0 rfl (j := 2) rfl).1
  have hba := (Below.refl w3.heap.size w3).alloc (Nat.le_refl _) (.cells #[.string f.name, .int .i64 f.size, .slice p f.spans.length cp] 35)
  obtain ⟨P1, y, hP1, hPy⟩ := (HOne.out w3 HC.out.bel).put
  have HP1 := Lib.hid (hP1 _ (Below.refl _ _))
  have HPY := Lib.hid hPy
  replace HC := Lib.hid (HC.out.below hba)
  clear hb3 HP HOne hP1 hPy hba
  go_wp2_with fail
  refine HP1.out.mono ?_
  rintro e w4 ⟨rfl, hb4⟩
  replace HC := Lib.hid (HC.out.below hb4)
  clear hb4 HP1 d0 d1 d2
  rcases HPX.out with ⟨rfl, hd, _⟩ | ⟨rfl, _⟩
  · rcases HPY.out with ⟨rfl, hd1, _⟩ | ⟨rfl, _⟩
    · cases b with
      | true =>
        have HM := Lib.hid (HSM.out rfl)
        have HD := Lib.hid hd
        have hwf : Well f := hd1.well f (List.mem_singleton.2 rfl)
        have HW := Lib.hid hwf
        have hLn : n ≤ 120 := by rw [← (HI.out _ HC.out.bel).size]; exact hd.many
        have HSP : Hid (∀ g ∈ L, g.spans.length ≤ 8796093022208) := fun g hg => by have := (hd.well g hg).many; omega
        have HSF2 : Hid (f.spans.length ≤ 8796093022208) := by unfold Hid; have := hwf.many; omega
        clear hd hd1 hwf HPX HPY HSM
        by_cases hn : n < 120
        · have hn' : ¬ (120 : Int) ≤ n := by omega
          have HR := Lib.hid HD.out.rises
          have HLZ : Hid (L.length = n) := (HI.out _ HC.out.bel).size
          have HNC : Hid (n ≤ c) := (HI.out _ HC.out.bel).room
          obtain ⟨O, hO⟩ : ∃ O, withoutL L f.name = O := ⟨_, rfl⟩
          have HOD : Hid (Dir O) := hO ▸ dir_without HD.out f.name
          have HOS : Hid (∀ g ∈ O, g.spans.length ≤ 8796093022208) := fun g hg => by have := (HOD.out.well g hg).many; omega
          have HON : Hid (findL O f.name = none) := hO ▸ find_without L f.name
          obtain ⟨M, hM⟩ : ∃ M, withL L f = M := ⟨_, rfl⟩
          have HMD : Hid (Dir M) := hM ▸ dir_with HD.out HW.out (by rw [HLZ.out]; exact hn)
          have HMS : Hid (∀ g ∈ M, g.spans.length ≤ 8796093022208) := fun g hg => by have := (HMD.out.well g hg).many; omega
          have HMF : Hid (findL M f.name = some f) := hM ▸ find_with HR.out f
          have HMO : Hid (∀ g ∈ L, g.name ≠ f.name → findL M g.name = some g) := hM ▸ fun g hg he => find_other HR.out hg he
          have HMW : Hid (withoutL M f.name = O) := by rw [← hM, ← hO]; exact without_with HR.out f
          have HMN : Hid (M.length = O.length + 1) := by rw [← hM, ← hO]; exact with_without_length HR.out f
          have HOM := Lib.hid hO
          have HMM := Lib.hid hM
          clear hO hM
          have d0 := (HC.out.at 0 rfl (j := 0) rfl).1
          have d1 := (HC.out.at 0 rfl (j := 1) rfl).1
          have d2 := (HC.out.at 0 rfl (j := 2) rfl).1
          have hI := HI.out _ HC.out.bel
          have hWith := With_any L f a p n c cp w4 hI.at_ hI.size (by omega) HNC.out HSP.out (HSF.out _ HC.out.bel) HSF2.out HD.out.rises
          rw [HMM.out] at hWith
          have HWith := Lib.hid hWith
          clear hI hWith
          go_wp2_with fail
          refine HWith.out.mono ?_
          rintro e w8 ⟨aM, cM, rfl, hfM, hb8⟩
          replace HC := Lib.hid (HC.out.below hb8)
          have hfd := Find_any M f.name aM M.length cM w8 hfM rfl (by have := HMD.out.many; omega) HMS.out
          rw [HMF.out] at hfd
          have HFind := Lib.hid hfd
          have HFM : Hid (∀ W, Below w8.heap.size w8 W → FilesAt W aM M) := fun W hW => FilesAt.below hfM hW
          have HB8 := Lib.hid (Below.refl w8.heap.size w8)
          clear hb8 HWith d0 d1 d2 hfM hfd
          have d0 := (HC.out.at 0 rfl (j := 0) rfl).1
          have d1 := (HC.out.at 0 rfl (j := 1) rfl).1
          have d2 := (HC.out.at 0 rfl (j := 2) rfl).1
          go_wp2_with fail
          refine HFind.out.mono ?_
          rintro e w9 hfd
          rcases hfd with ⟨g, q, cq, ho, rfl, hsp, hb9⟩ | ⟨ho, _⟩
          · obtain rfl : f = g := Option.some.inj ho
            have hal := (Below.refl w9.heap.size w9).alloc (Nat.le_refl _) (.cells #[.string f.name, .int .i64 f.size, .slice q f.spans.length cq] 35)
            replace HC := Lib.hid ((HC.out.below hb9).block #[.string f.name, .int .i64 f.size, .slice q f.spans.length cq] 35)
            have HSQ : Hid (∀ W, Below w9.heap.size w9 W → SpansAt W q f.spans) := fun W hW => SpansAt.below hsp hW
            have HB9 := Lib.hid hal
            replace HB8 := Lib.hid (below_trans hb9 hal)
            have hwo := Without_any M f.name aM M.length cM _ (HFM.out _ HB8.out) rfl (by have := HMD.out.many; omega) HMS.out
            rw [HMW.out] at hwo
            have HWo := Lib.hid hwo
            clear hwo hsp hb9 hal ho HFind d0 d1 d2
            have d0 := (HC.out.at 0 rfl (j := 0) rfl).1
            have d1 := (HC.out.at 0 rfl (j := 1) rfl).1
            have d2 := (HC.out.at 0 rfl (j := 2) rfl).1
            go_wp2_with fail
            refine HWo.out.mono ?_
            rintro e w10 ⟨aO, cO, rfl, hfO, hb10⟩
            replace HC := Lib.hid (HC.out.below hb10)
            replace HB8 := Lib.hid (below_trans HB8.out hb10)
            replace HB9 := Lib.hid (below_trans HB9.out hb10)
            have hfd := Find_any O f.name aO O.length cO w10 hfO rfl (by have := HOD.out.many; omega) HOS.out
            rw [HON.out] at hfd
            have HFind := Lib.hid hfd
            have HFO : Hid (∀ W, Below w10.heap.size w10 W → FilesAt W aO O) := fun W hW => FilesAt.below hfO hW
            clear hfd hfO hb10 HWo d0 d1 d2
            have d0 := (HC.out.at 0 rfl (j := 0) rfl).1
            have d1 := (HC.out.at 0 rfl (j := 1) rfl).1
            have d2 := (HC.out.at 0 rfl (j := 2) rfl).1
            go_wp2_with fail
            refine HFind.out.mono ?_
            rintro e w11 hfd
            rcases hfd with ⟨g, _, _, ho, _⟩ | ⟨_, rfl, hb11⟩
            · cases ho
            have hal := below_trans hb11 ((Below.refl w11.heap.size w11).alloc (Nat.le_refl _) (.cells #[.string ⟨#[]⟩, .int .i64 0, .slice none 0 0] 35))
            replace HC := Lib.hid ((HC.out.below hb11).block #[.string ⟨#[]⟩, .int .i64 0, .slice none 0 0] 35)
            replace HB8 := Lib.hid (below_trans HB8.out hal)
            replace HB9 := Lib.hid (below_trans HB9.out hal)
            have HB10 := Lib.hid hal
            have HPM := Lib.hid (Put_yes M aM M.length cM _ (HFM.out _ HB8.out) rfl HMD.out)
            clear hb11 hal HFind d0 d1 d2
            go_wp2_with fail
            refine HPM.out.mono ?_
            rintro e w12 ⟨rfl, hb12⟩
            replace HC := Lib.hid (HC.out.below hb12)
            replace HB8 := Lib.hid (below_trans HB8.out hb12)
            replace HB9 := Lib.hid (below_trans HB9.out hb12)
            replace HB10 := Lib.hid (below_trans HB10.out hb12)
            have HPO := Lib.hid (Put_yes O aO O.length cO w12 (HFO.out _ HB10.out) rfl HOD.out)
            clear HPM hb12
            go_wp2_with fail
            refine HPO.out.mono ?_
            rintro e w13 ⟨rfl, hb13⟩
            replace HC := Lib.hid (HC.out.below hb13)
            replace HB8 := Lib.hid (below_trans HB8.out hb13)
            replace HB9 := Lib.hid (below_trans HB9.out hb13)
            replace HB10 := Lib.hid (below_trans HB10.out hb13)
            have HOl : Hid (O.length ≤ 120) := HOD.out.many
            have hml : (M.length : Int) - 1 = O.length := by have := HMN.out; omega
            have hmw : IntKind.i64.wrap ((M.length : Int) - 1) = O.length := (IntWalk.i64_in _ (by have := HOl.out; omega)).trans hml
            have HWO : Hid (IntKind.i64.wrap (O.length : Int) = O.length) := Lib.hid (IntWalk.i64_in _ (by have := HOl.out; omega))
            have HNN : Hid (((O.length : Int) != O.length) = false) := Lib.hid (by simp)
            have HML : Hid (M.length ≤ 120) := HMD.out.many
            have HOS2 : Hid (∀ g ∈ O, g.spans.length ≤ 1000000) := fun g hg => by have := (HOD.out.well g hg).many; omega
            have HLS2 : Hid (∀ g ∈ L, g.spans.length ≤ 1000000) := fun g hg => by have := (HD.out.well g hg).many; omega
            clear HPO hb13 HMD HOD HOS HON HMW HMM HSF2
            have c0 := (HC.out.at 0 rfl (j := 0) rfl).1
            have c1 := (HC.out.at 0 rfl (j := 1) rfl).1
            have c2 := (HC.out.at 0 rfl (j := 2) rfl).1
            have e0 := (HC.out.at 1 rfl (j := 0) rfl).1
            have e1 := (HC.out.at 1 rfl (j := 1) rfl).1
            have e2 := (HC.out.at 1 rfl (j := 2) rfl).1
            have HSL : Hid (f.spans.length ≤ 1000000) := by unfold Hid; have := HW.out.many; omega
            have t1 := two_in (W0 := w13) (f := f) (g := f) (p := p) (q := q) (c := cp) (d := cq) (fun W hW => HSF.out W (below_trans HC.out.bel hW)) (HSQ.out _ HB9.out)
            have t2 := two_in (W0 := w13) (f := f) (g := f) (p := q) (q := p) (c := cq) (d := cp) (fun W hW => HSQ.out W (below_trans HB9.out hW)) (HSF.out _ HC.out.bel)
            have HA1 := Lib.hid (as_one (c := 1) t1.1)
            have HA2 := Lib.hid (as_one (c := 1) t2.2.1)
            have HT1 := Lib.hid t1.2
            have HT2 := Lib.hid (And.intro t2.1 t2.2.2)
            have b3 := ((Below.refl w13.heap.size w13).alloc (Nat.le_refl _) (.cells #[.string f.name, .int .i64 f.size, .slice p f.spans.length cp] 35)).drew
            have HA3 := Lib.hid (as_one (c := 1) (one_in (W0 := w13) (c := cp) (HSF.out _ HC.out.bel) ((Below.refl _ (w13.alloc (.cells #[.string f.name, .int .i64 f.size, .slice p f.spans.length cp] 35))).drew)))
            have HT3 := Lib.hid b3
            clear t1 t2 b3
            go_upto_region 13 with fail
            go_cut [118] from 89 to 118 (fun b wc => b = .bool false ∧ Hid (Below w13.heap.size w13 wc))
            case first =>
              go_region_held3 (fun W => W.cell? ⟨w.heap.size, 0, none⟩ = some (.string f.name) ∧ W.cell? ⟨w.heap.size, 1, none⟩ = some (.int .i64 f.size) ∧ W.cell? ⟨w.heap.size, 2, none⟩ = some (.slice p f.spans.length cp) ∧ W.cell? ⟨w9.heap.size, 0, none⟩ = some (.string f.name) ∧ W.cell? ⟨w9.heap.size, 1, none⟩ = some (.int .i64 f.size) ∧ W.cell? ⟨w9.heap.size, 2, none⟩ = some (.slice q f.spans.length cq))
                (first
                  | go_keep
                  | exact ⟨(HC6.out.at 0 rfl (j := 0) rfl).1, (HC6.out.at 0 rfl (j := 1) rfl).1, (HC6.out.at 0 rfl (j := 2) rfl).1, (HC6.out.at 1 rfl (j := 0) rfl).1, (HC6.out.at 1 rfl (j := 1) rfl).1, (HC6.out.at 1 rfl (j := 2) rfl).1⟩
                  | exact ⟨(HC5.out.at 0 rfl (j := 0) rfl).1, (HC5.out.at 0 rfl (j := 1) rfl).1, (HC5.out.at 0 rfl (j := 2) rfl).1, (HC5.out.at 1 rfl (j := 0) rfl).1, (HC5.out.at 1 rfl (j := 1) rfl).1, (HC5.out.at 1 rfl (j := 2) rfl).1⟩)
                (first
                  | (go_at_call 15; with_reducible refine HA1.out.mono ?_; rintro e w5 ⟨a5, c5, rfl, hf5, hb5⟩; have HB5 := Lib.hid (below_trans HT1.out.2 hb5); have HC5 := Lib.hid (HC.out.below HB5.out); have HS5 := Lib.hid (same_one (ca := 1) (cb := c5) (FilesAt.below HT1.out.1 hb5) hf5 HSL.out); clear hf5 hb5)
                  | (go_at_call 15; with_reducible refine HA2.out.mono ?_; rintro e w5 ⟨a5, c5, rfl, hf5, hb5⟩; have HB5 := Lib.hid (below_trans HT2.out.2 hb5); have HC5 := Lib.hid (HC.out.below HB5.out); have HS5 := Lib.hid (same_one (ca := 1) (cb := c5) (FilesAt.below HT2.out.1 hb5) hf5 HSL.out); clear hf5 hb5)
                  | (go_at_call 13; with_reducible refine HS5.out.mono ?_; rintro e w6 ⟨rfl, hb6⟩; have HB6 := Lib.hid (below_trans HB5.out hb6); have HC6 := Lib.hid (HC.out.below HB6.out); clear hb6)
                  | (go_at_call 15; with_reducible refine HA3.out.mono ?_; rintro e w5 ⟨a5, c5, rfl, hf5, hb5⟩; have HB5 := Lib.hid (below_trans HT3.out hb5); have HC5 := Lib.hid (HC.out.below HB5.out); have HB7 := Lib.hid ((Below.refl w5.heap.size w5).alloc (Nat.le_refl _) (.cells #[.string f.name, .int .i64 f.size, .slice q f.spans.length cq] 35)); have HS7 := Lib.hid (same_one (ca := 1) (cb := c5) (one_in (W0 := w5) (c := cq) (HSQ.out _ (below_trans HB9.out HB5.out)) (Below.refl _ (w5.alloc (.cells #[.string f.name, .int .i64 f.size, .slice q f.spans.length cq] 35)))) (FilesAt.below hf5 HB7.out) HSL.out); clear hf5 hb5)
                  | (go_at_call 13; with_reducible refine HS7.out.mono ?_; rintro e w6 ⟨rfl, hb6⟩; have HB6 := Lib.hid (below_trans (below_trans HB5.out HB7.out) hb6); have HC6 := Lib.hid (HC.out.below HB6.out); clear hb6))
              all_goals
                go_wp2_with fail
                go_meet
                refine ⟨?_, Lib.hid HB6.out⟩
                rw [HWO.out, HNN.out]
            case rest =>
              obtain ⟨rfl, hbx⟩ := hcut
              replace HC := Lib.hid (HC.out.below hbx.out)
              have HFMx : Hid (∀ W, Below wc.heap.size wc W → FilesAt W aM M) := fun W hW => HFM.out W (below_trans (below_trans HB8.out hbx.out) hW)
              have HFOx : Hid (∀ W, Below wc.heap.size wc W → FilesAt W aO O) := fun W hW => HFO.out W (below_trans (below_trans HB10.out hbx.out) hW)
              have HIx : Hid (∀ W, Below wc.heap.size wc W → FilesAt W a L) := fun W hW => (HI.out W (below_trans HC.out.bel hW)).at_
              clear hbx HFM HFO HI HB8 HB9 HB10 HSQ HSL HA1 HA2 HA3 HT1 HT2 HT3 HWO HNN c0 c1 c2 e0 e1 e2 hml hmw
              go_wp2
              go_loopw [21] (fun i wr => ∃ k : Nat, i = .int .i64 k ∧ k ≤ n ∧ Hid (Below wc.heap.size wc wr)) (fun i _ => (n - intOf i).toNat)
              case atStart => exact ⟨0, rfl, Nat.zero_le _, Below.refl _ _⟩
              case round =>
                obtain ⟨k, rfl, hk, HBk⟩ := hrel
                by_cases hlt : k < n
                · have hltI : (k : Int) < n := by omega
                  have hkl : k < L.length := by rw [HLZ.out]; exact hlt
                  have hm : L.getD k default ∈ L := getD_mem (d := default) hkl
                  have hfnd : ∃ g, findL M (L.getD k default).name = some g ∧ ((L.getD k default).name ≠ f.name → g = L.getD k default) := by
                    by_cases he : (L.getD k default).name = f.name
                    · exact ⟨f, by rw [he]; exact HMF.out, fun h => absurd he h⟩
                    · exact ⟨_, HMO.out _ hm he, fun _ => rfl⟩
                  obtain ⟨g, hg, hgn⟩ := hfnd
                  have HX : Hid (∀ W, Below wc.heap.size wc W → ∃ x, a = some x ∧ FileAt W (x.add (k * 3)) (L.getD k default)) := fun W hW => HIx.out W hW k hkl
                  obtain ⟨x, rfl, g0, _⟩ := HX.out wr HBk.out
                  have HX2 : Hid (∀ W, Below wc.heap.size wc W → FileAt W (x.add (k * 3)) (L.getD k default)) := fun W hW => by
                    obtain ⟨y, hy, hf⟩ := HX.out W hW
                    cases hy
                    exact hf
                  have HI1 : Hid (∀ W, Below wc.heap.size wc W → FilesAt W (some (x.add (k * 3))) [L.getD k default]) := fun W hW => by
                    have h := files_take (files_drop (HIx.out W hW) k) 1
                    rw [drop_at L k default hkl] at h
                    exact h
                  have HLh := Lib.hid (HLS2.out _ hm)
                  have hfd := Find_any M (L.getD k default).name aM M.length cM wr (HFMx.out _ HBk.out) rfl (by have := HML.out; omega) HMS.out
                  rw [hg] at hfd
                  have HFind := Lib.hid hfd
                  have HGN := Lib.hid hgn
                  generalize L.getD k default = h at *
                  clear hg hgn hfd HX hm hkl
                  go_wp2_with fail
                  refine HFind.out.mono ?_
                  rintro e w14 hfd
                  rcases hfd with ⟨g', q, cq, ho, rfl, hsp, hb14⟩ | ⟨ho, _⟩
                  · obtain rfl : g = g' := Option.some.inj ho
                    have HC5 := Lib.hid ((HC.out.below (below_trans HBk.out hb14)).block #[.string g.name, .int .i64 g.size, .slice q g.spans.length cq] 35)
                    have HB5 := Lib.hid (below_trans (below_trans HBk.out hb14) ((Below.refl w14.heap.size w14).alloc (Nat.le_refl _) (.cells #[.string g.name, .int .i64 g.size, .slice q g.spans.length cq] 35)))
                    have HSQ : Hid (∀ W, Below w14.heap.size w14 W → SpansAt W q g.spans) := fun W hW => SpansAt.below hsp hW
                    have HB6 := Lib.hid ((Below.refl w14.heap.size w14).alloc (Nat.le_refl _) (.cells #[.string g.name, .int .i64 g.size, .slice q g.spans.length cq] 35))
                    clear g0 hb14 hsp ho HFind
                    by_cases he : h.name = f.name
                    · have hq := eq_beq h.name f.name
                      rw [decide_eq_true he] at hq
                      clear HGN he
                      have a0 := fun q => after_cell (HX2.out _ HB5.out).1 (row_block (HX2.out _ HB5.out).1) q
                      have a1 := fun q => after_cell (HC5.out.at 0 rfl (j := 0) rfl).1 (row_block (HC5.out.at 0 rfl (j := 0) rfl).1) q
                      go_wp2_with fail
                      refine wp_region_after (by kernel_rfl) (by kernel_rfl) ?_
                      repeat (go_big_quiet_step (first | fail))
                      refine wpQuiet_nil ?_
                      intro _ hw
                      obtain ⟨r, rfl⟩ := hw
                      have HP := Lib.hid (below_trans HB5.out r.is)
                      clear a0 a1
                      generalize r.to = wp at *
                      go_wp2
                      exact ⟨⟨k + 1, by go_num, by omega, HP⟩, by simp [intOf]; omega⟩
                    · have hq := eq_beq h.name f.name
                      rw [decide_eq_false he] at hq
                      have hq' : (h.name.toList != f.name.toList) = true := by rw [bne, hq]; rfl
                      obtain rfl : g = h := HGN.out he
                      have HW5 : Hid (Below w14.heap.size w14 (w14.alloc (.cells #[.string g.name, .int .i64 g.size, .slice q g.spans.length cq] 35))) := HB6
                      have k1 : (k : Int) + 1 ≤ c := by have := HNC.out; omega
                      have k2 : (0 : Int) ≤ k := by omega
                      have hsl := fun W => slice_one x n c k hlt HNC.out W
                      have hkw : IntKind.i64.wrap ((k : Int) + 1) = (k : Int) + 1 := IntWalk.i64_in _ (by omega)
                      go_upto_region 19 with fail
                      have X0 := (HC5.out.at 3 rfl (j := 0) rfl).1
                      have X1 := (HC5.out.at 3 rfl (j := 1) rfl).1
                      have X2 := (HC5.out.at 3 rfl (j := 2) rfl).1
                      have X3 := (HC5.out.at 0 rfl (j := 0) rfl).1
                      have X4 := (HX2.out _ HB5.out).1
                      have XS := HSQ.out _ HB6.out
                      generalize w14.alloc (.cells #[.string g.name, .int .i64 g.size, .slice q g.spans.length cq] 35) = w15 at *
                      have KEEP : Hid (∀ W, Below w15.heap.size w15 W → W.cell? ⟨w14.heap.size, 0, none⟩ = some (.string g.name) ∧ W.cell? ⟨w14.heap.size, 1, none⟩ = some (.int .i64 g.size) ∧ W.cell? ⟨w14.heap.size, 2, none⟩ = some (.slice q g.spans.length cq) ∧ W.cell? ⟨w.heap.size, 0, none⟩ = some (.string f.name) ∧ W.cell? (x.add (k * 3)) = some (.string g.name)) := fun W hW => ⟨keeps hW _ _ X0, keeps hW _ _ X1, keeps hW _ _ X2, keeps hW _ _ X3, keeps hW _ _ X4⟩
                      have HQ : Hid (∀ W, Below w15.heap.size w15 W → SpansAt W q g.spans) := fun W hW => SpansAt.below XS hW
                      have HS1 : Hid (∀ W, Below w15.heap.size w15 W → FilesAt W (some (x.add (k * 3))) [g]) := fun W hW => HI1.out W (below_trans HB5.out hW)
                      have b3 := ((Below.refl w15.heap.size w15).alloc (Nat.le_refl _) (.cells #[.string g.name, .int .i64 g.size, .slice q g.spans.length cq] 35)).drew
                      have HT1 := Lib.hid b3
                      have HA1 := Lib.hid (as_one (c := c - k) (HS1.out _ b3))
                      have HF1 := Lib.hid (one_in (W0 := w15) (c := cq) XS ((Below.refl _ (w15.alloc (.cells #[.string g.name, .int .i64 g.size, .slice q g.spans.length cq] 35))).drew))
                      have HT2 := Lib.hid ((Below.refl w15.heap.size w15).drew)
                      have HA2 := Lib.hid (as_one (c := c - k) (HS1.out _ HT2.out))
                      clear b3 XS HC5 HX2 HI1 HSQ HB6 HW5
                      go_region_held3 (fun W => W.cell? ⟨w14.heap.size, 0, none⟩ = some (.string g.name) ∧ W.cell? ⟨w14.heap.size, 1, none⟩ = some (.int .i64 g.size) ∧ W.cell? ⟨w14.heap.size, 2, none⟩ = some (.slice q g.spans.length cq) ∧ W.cell? ⟨w.heap.size, 0, none⟩ = some (.string f.name) ∧ W.cell? (x.add (k * 3)) = some (.string g.name))
                        (first
                          | go_keep
                          | exact KEEP.out _ HN6.out
                          | exact KEEP.out _ HN5.out
                          | exact KEEP.out _ HT2.out
                          | exact KEEP.out _ HT1.out)
                        (first
                          | (go_at_call 15; with_reducible refine HA1.out.mono ?_; rintro e w5 ⟨a5, c5, rfl, hf5, hb5⟩; have HN5 := Lib.hid (below_trans HT1.out hb5); have HS5 := Lib.hid (same_one (ca := 1) (cb := c5) (FilesAt.below HF1.out hb5) hf5 HLh.out); clear hf5 hb5)
                          | (go_at_call 13; with_reducible refine HS5.out.mono ?_; rintro e w6 ⟨rfl, hb6⟩; have HN6 := Lib.hid (below_trans HN5.out hb6); clear hb6)
                          | (go_at_call 15; with_reducible refine HA2.out.mono ?_; rintro e w5 ⟨a5, c5, rfl, hf5, hb5⟩; have HN5 := Lib.hid (below_trans HT2.out hb5); have HB7 := Lib.hid ((Below.refl w5.heap.size w5).alloc (Nat.le_refl _) (.cells #[.string g.name, .int .i64 g.size, .slice q g.spans.length cq] 35)); have HS7 := Lib.hid (same_one (ca := 1) (cb := c5) (one_in (W0 := w5) (c := cq) (HQ.out _ HN5.out) (Below.refl _ (w5.alloc (.cells #[.string g.name, .int .i64 g.size, .slice q g.spans.length cq] 35)))) (FilesAt.below hf5 HB7.out) HLh.out); clear hf5 hb5)
                          | (go_at_call 13; with_reducible refine HS7.out.mono ?_; rintro e w6 ⟨rfl, hb6⟩; have HN6 := Lib.hid (below_trans (below_trans HN5.out HB7.out) hb6); clear hb6))
                      all_goals
                        have HP := Lib.hid (below_trans HB5.out HN6.out)
                        go_wp2
                        exact ⟨⟨k + 1, by go_num, by omega, HP⟩, by simp [intOf]; omega⟩
                  · cases ho
                · obtain rfl : k = n := by omega
                  have hltI : ¬ (k : Int) < k := by omega
                  have hwo := Without_any L f.name a k c wr (HIx.out _ HBk.out) HLZ.out (by omega) HSP.out
                  rw [HOM.out] at hwo
                  have HWo := Lib.hid hwo
                  have c0 := ((HC.out.below HBk.out).at 0 rfl (j := 0) rfl).1
                  clear hwo
                  go_wp2_with fail
                  refine HWo.out.mono ?_
                  rintro e w16 ⟨aP, cP, rfl, hfP, hb16⟩
                  have HAs := Lib.hid (as_any O aO O.length cO w16 (HFOx.out _ (below_trans HBk.out hb16)) rfl (by have := HOl.out; omega))
                  have HP := Lib.hid (fun W (hW : Below w16.heap.size w16 W) => FilesAt.below hfP hW)
                  have HB16 := Lib.hid (below_trans HBk.out hb16)
                  clear hfP hb16 HWo c0
                  go_wp2_with fail
                  refine HAs.out.mono ?_
                  rintro e w17 ⟨aQ, cQ, rfl, hfQ, hb17⟩
                  have HS := Lib.hid (same_self (ca := cP) (cb := cQ) (HP.out _ hb17) hfQ rfl (by have := HOl.out; omega) HOS2.out)
                  have HB17 := Lib.hid (below_trans HB16.out hb17)
                  clear hfQ hb17 HAs
                  go_wp2_with fail
                  refine HS.out.mono ?_
                  rintro e w18 ⟨rfl, hb18⟩
                  have HB18 := Lib.hid (below_trans HC.out.bel (below_trans HB17.out hb18))
                  clear HS hb18
                  go_wp2
                  go_ret
                  exact ⟨rfl, HB18.out⟩
          · cases ho
        · have hn' : (120 : Int) ≤ n := by omega
          have HB := Lib.hid HC.out.bel
          clear HSP HSF2
          go_wp2
          go_ret
          exact ⟨rfl, HB.out⟩
      | false =>
        have HB := Lib.hid HC.out.bel
        clear HPX HPY HSM hd hd1
        go_wp2
        go_ret
        exact ⟨rfl, HB.out⟩
    · have HB := Lib.hid HC.out.bel
      clear HPX HPY HSM hd
      cases b with
      | true =>
        go_wp2
        go_ret
        exact ⟨rfl, HB.out⟩
      | false =>
        go_wp2
        go_ret
        exact ⟨rfl, HB.out⟩
  · have HB := Lib.hid HC.out.bel
    clear HPX HPY HSM
    cases b with
    | true =>
      go_wp2
      go_ret
      exact ⟨rfl, HB.out⟩
    | false =>
      go_wp2
      go_ret
      exact ⟨rfl, HB.out⟩

set_option maxRecDepth 100000 in
theorem lifted (os : Os) (started : os.Started) (H : Type) (enc : TypeId × Value → H) :
    ReturnsInHanded {} Try.checked os 6 .any (Rows.dirKeepsSpec.pre6 enc Try.prog Try.f6 Rows.dirKeepsRow.domain false) (Rows.dirKeepsSpec.post enc Try.prog Try.f6 false true false false) := by
  refine returnsInHanded_of_change (C := Try.checked) own started (by kernel_rfl) Try.func6
    (ChangeSpec.witness6 (enc := enc) (C := Try.checked) false ⟨#[], #[.slice none 0 0, .agg #[.string ByteArray.empty, .int .i64 0, .slice none 0 0]], []⟩ 8 (by kernel_rfl) (by kernel_rfl) (by kernel_rfl) (by kernel_rfl)) ?_
  intro W base args ds gs before hval0 hW _ _
  have hval : ∀ (j : Nat) t v, Try.f6.params[j]? = some t → args[j]? = some v → Value.okWide Try.prog W .any base t v := hval0
  have hW' := hW
  obtain ⟨p, q, hA0, hV, rfl, hfz, hnd⟩ := hW
  have hA : DataW.TrodAll enc Try.prog W 0 (fun _ => true) true Try.f6.params.toList args.toList ds p := hA0
  rw [Try.params6] at hA hval
  obtain ⟨v0, vs0, d0, ds0, p0, q0, hargs, rfl, rfl, h0, r0⟩ := trodAll_cons hA
  obtain ⟨v1, vs1, d1, ds1, p1, q1, rfl, rfl, rfl, h1, r1⟩ := trodAll_cons r0
  obtain ⟨rfl, rfl, rfl⟩ := trodAll_nil r1
  obtain rfl : args = #[v0, v1] := by cases args; simp_all
  obtain ⟨rfl, rfl⟩ := trodVars_none hV
  obtain ⟨a0, len0, cap0, rfl⟩ := okWide_slice Try.underlying24 (hval 0 24 v0 rfl rfl)
  have k0 := h0
  have lt0 : ∀ x ∈ p0, x.block < W.heap.size := by obtain ⟨m, hm⟩ := k0; exact DataW.trod_lt m _ _ _ hm
  obtain ⟨z0, w0⟩ : ∃ zs, IsFiles W a0 len0 cap0 zs := by
    obtain ⟨fuel, hf⟩ := h0
    exact open_files hf
  have k1 := h1
  have lt1 : ∀ x ∈ p1, x.block < W.heap.size := by obtain ⟨m, hm⟩ := k1; exact DataW.trod_lt m _ _ _ hm
  obtain ⟨f1, g1, c1, rfl, w1⟩ := open_file (hval 1 35 v1 rfl rfl) h1
  clear hA0 hval0
  refine (walk a0 len0 cap0 z0 f1 g1 c1 W w0 w1).mono fun e W' ⟨he, bel⟩ => ?_
  subst he
  exact ⟨_, rfl, _, _, _, [], _, [], hW', trodAll_mk1 (shut_bool Try.underlying4 _), (trodAll_cons_mk (Below.trod laidOut (by kernel_rfl) (of_decide_eq_true (by kernel_rfl)) k0 bel lt0) (trodAll_cons_mk (Below.trod laidOut (by kernel_rfl) (of_decide_eq_true (by kernel_rfl)) k1 bel lt1) trodAll_mk0)), rfl, bel.frame _, fun h => by cases h⟩

theorem holds : Rows.DirKeepsSaid :=
  OpenClaim.holds_of_wide 6 Try.f6 rfl rfl rfl rfl rfl rfl rfl ⟨rfl, rfl, rfl, rfl, rfl⟩ rfl rfl rfl rfl rfl (by kernel_rfl) Try.func6 (by kernel_rfl)
    (of_decide_eq_true (by kernel_rfl)) (by unfold Func.isWrapper; first | (rw [if_pos (by decide +kernel)]; kernel_rfl) | (rw [if_neg (by decide +kernel)]; exact ⟨rfl, rfl⟩))
    (fun os started H enc _ => lifted os started H enc)

end Go.Proofs.Yteellffkjjllgaa.dirKeeps
