/-
  The directory that the document reads off a text; what its Take answers. Conditions: as each theorem states them.
-/
import Derived.Test.YteellffkjjllgaaQDrRdR
namespace Go.Proofs.Yteellffkjjllgaa
open Go.RowKit Go.Rc5 Go.Rc6 Go.Rc7

/-- The head of a file as it is read. -/
theorem head_read {s : ByteArray} {bad : Bool} {g : Fl} {y : List UInt8} (hw : Well g) (hbad : bad = false) (hst : s.data.toList = textT g ++ y)
    {n1 z m : Nat} {s1 s2 s3 s4 nm : ByteArray} {bad1 bad2 bad3 bad4 : Bool} (hn1 : num s bad 1 = n1) (hs1 : lft s bad 1 = s1) (hb1 : no s bad 1 = bad1) (hnm : txt s1 bad1 (n1 : Int) = nm) (hs2 : lft s1 bad1 (n1 : Int) = s2) (hb2 : no s1 bad1 (n1 : Int) = bad2)
    (hz : num s2 bad2 4 = z) (hs3 : lft s2 bad2 4 = s3) (hb3 : no s2 bad2 4 = bad3) (hm : num s3 bad3 1 = m) (hs4 : lft s3 bad3 1 = s4) (hb4 : no s3 bad3 1 = bad4) :
    nm = g.name ∧ (z : Int) = g.size ∧ m = g.spans.length ∧ s4.data.toList = spansT g.spans ++ y ∧ bad4 = false := by
  subst hbad
  have q1 := hw.name_le
  have q2 := hw.lo
  have q3 := hw.hi
  have q4 := hw.many
  unfold textT headT at hst
  simp only [List.append_assoc] at hst
  obtain ⟨r1, r2, r3⟩ := read_num (k := 1) (by decide) (by omega) hst
  have e1 : n1 = g.name.size := hn1.symm.trans r1
  have e2 : bad1 = false := hb1.symm.trans r3
  rw [show ((1 : Nat) : Int) = 1 from rfl, hs1] at r2
  have hx : g.name.data.toList.length = n1 := by rw [e1]; simp
  subst e2
  have r4 := txt_at r2 hx
  have r5 := lft_at r2 hx
  have r6 := no_at r2 hx
  rw [hnm] at r4
  rw [hs2] at r5
  rw [hb2] at r6
  subst r6
  obtain ⟨r7, r8, r9⟩ := read_num (k := 4) (by decide) (by omega) r5
  have e3 : z = g.size.toNat := hz.symm.trans r7
  have e4 : bad3 = false := hb3.symm.trans r9
  rw [show ((4 : Nat) : Int) = 4 from rfl, hs3] at r8
  subst e4
  obtain ⟨t1, t2, t3⟩ := read_num (k := 1) (by decide) (by omega) r8
  rw [show ((1 : Nat) : Int) = 1 from rfl, hs4] at t2
  exact ⟨by rw [r4], by omega, hm.symm.trans t1, t2, hb4.symm.trans t3⟩

set_option maxRecDepth 100000 in
set_option maxHeartbeats 16000000 in
theorem TakeD_files (s : ByteArray) (hs : s.size ≤ 1000000) (w : World) : Calls Try.prog 12 #[.string s] w (Takes s w) := by
  have HT := Lib.hid (fun W => TakeR_any s (by unfold maxLen; omega) W)
  by_cases h0 : tkE s = 0
  · obtain ⟨hse, h4⟩ := tk_ok h0
    have hsz : (tkT s).size ≤ 1000000 := by
      have := congrArg ByteArray.size hse
      rw [sealed_size] at this
      omega
    have HER : Hid (errT s = 2) := by unfold Hid errT; rw [if_pos h0]
    have HNO : Hid (∀ L, s = dirB L → (tkT s).data.toList = bodyT L) := fun L hL => by rw [hL, (tk_dir L).1]
    rw [h0] at HT
    generalize tkT s = t at *
    clear hse h0
    obtain ⟨n, hn⟩ : ∃ n, num t false 1 = n := ⟨_, rfl⟩
    obtain ⟨u1, hu1⟩ : ∃ T, lft t false 1 = T := ⟨_, rfl⟩
    obtain ⟨bd1, hbd1⟩ : ∃ T, no t false 1 = T := ⟨_, rfl⟩
    have ln : n < 256 := by rw [← hn]; exact num_lt t false 1
    have g1 : u1.size ≤ t.size := by rw [← hu1]; exact lft_le _ _ _ (Nat.le_refl _)
    have key : ∀ L, Dir L → t.data.toList = bodyT L → n = L.length ∧ u1.data.toList = filesT L ∧ bd1 = false := by
      intro L hL hst
      have := hL.many
      unfold bodyT at hst
      obtain ⟨r1, r2, r3⟩ := read_num (k := 1) (by decide) (by omega) hst
      rw [show ((1 : Nat) : Int) = 1 from rfl, hu1] at r2
      exact ⟨hn.symm.trans r1, r2, hbd1.symm.trans r3⟩
    have HKEY := Lib.hid key
    have un := wrap_u16 (n := n) (by omega)
    go_enter Try.func12, Try.ntmps12
    go_wp2_with fail
    refine (HT.out _).mono ?_
    rintro e w1 ⟨rfl, hb1⟩
    have H0 := ((Crew.start w).below hb1).block #[.string t, .bool false] 67
    have HN1 := NumberD_crew H0 0 rfl hsz 1 (by decide)
    rw [hn, hu1, hbd1] at HN1
    have HD1 := Lib.hid HN1
    clear HN1 hn hu1 hbd1 H0 key hb1 HT
    go_wp2_with fail
    refine HD1.out.mono ?_
    rintro e w2 ⟨rfl, h1⟩
    have h2 := (h1.nil 39 3).deep
    simp only [List.set_cons_zero, List.cons_append, List.nil_append] at h2
    have HC := Lib.hid h2
    clear h1 h2 HD1
    obtain ⟨rb, hrb⟩ : ∃ rb, w1.heap.size = rb := ⟨_, rfl⟩
    rw [hrb] at HC ⊢
    go_wp2_with fail
    go_loopw [8, 9] (fun v i wr => ∃ (k : Nat) (S : ByteArray) (bd : Bool) (R : List FR), i = .int .i64 k ∧ k ≤ n ∧ S.size ≤ 1000000 ∧ Hid (R.length = k ∧ (∀ r ∈ R, r.1.name.size ≤ 255 ∧ r.1.spans.length ≤ 255) ∧ ∀ L, Dir L → t.data.toList = bodyT L → S.data.toList = filesT (L.drop k) ∧ bd = false ∧ R.map (·.1) = L.take k) ∧
      Hid (Crew (fun _ => False) w [blkT rb #[.string S, .bool bd] 67, rowT 0 39 3 v k (filesC R), deepT R] wr)) (fun _ i _ => (n - intOf i).toNat)
    case atStart => exact ⟨0, u1, bd1, [], rfl, Nat.zero_le _, by omega, ⟨rfl, fun x hx => (by cases hx), fun L hL hst => ⟨(HKEY.out L hL hst).2.1, (HKEY.out L hL hst).2.2, rfl⟩⟩, HC.out⟩
    case round =>
      obtain ⟨k, S, bd, R, rfl, hk, hS, HI, HR⟩ := hrel
      clear HC
      obtain ⟨av, cv, rfl⟩ := HR.out.slice 1 rfl
      have rc1 : wr.cell? ⟨rb, 1, none⟩ = some (.bool bd) := (HR.out.at 0 rfl (j := 1) rfl).1
      by_cases hgo : k < n ∧ bd = false
      · obtain ⟨hlt, rfl⟩ := hgo
        have hltI : (k : Int) < n := by omega
        obtain ⟨n1, hn1⟩ : ∃ n, num S false 1 = n := ⟨_, rfl⟩
        obtain ⟨s1, hs1⟩ : ∃ T, lft S false 1 = T := ⟨_, rfl⟩
        obtain ⟨bad1, hb1⟩ : ∃ T, no S false 1 = T := ⟨_, rfl⟩
        obtain ⟨nm, hnm⟩ : ∃ T, txt s1 bad1 (n1 : Int) = T := ⟨_, rfl⟩
        obtain ⟨s2, hs2⟩ : ∃ T, lft s1 bad1 (n1 : Int) = T := ⟨_, rfl⟩
        obtain ⟨bad2, hb2⟩ : ∃ T, no s1 bad1 (n1 : Int) = T := ⟨_, rfl⟩
        obtain ⟨z, hz⟩ : ∃ n, num s2 bad2 4 = n := ⟨_, rfl⟩
        obtain ⟨s3, hs3⟩ : ∃ T, lft s2 bad2 4 = T := ⟨_, rfl⟩
        obtain ⟨bad3, hb3⟩ : ∃ T, no s2 bad2 4 = T := ⟨_, rfl⟩
        obtain ⟨m, hm⟩ : ∃ n, num s3 bad3 1 = n := ⟨_, rfl⟩
        obtain ⟨s4, hs4⟩ : ∃ T, lft s3 bad3 1 = T := ⟨_, rfl⟩
        obtain ⟨bad4, hb4⟩ : ∃ T, no s3 bad3 1 = T := ⟨_, rfl⟩
        have l1 : n1 < 256 := by rw [← hn1]; exact num_lt S false 1
        have lz : z < 4294967296 := by rw [← hz]; exact num_lt s2 bad2 4
        have lm : m < 256 := by rw [← hm]; exact num_lt s3 bad3 1
        have g1 : s1.size ≤ S.size := by rw [← hs1]; exact lft_le _ _ _ (Nat.le_refl _)
        have g2 : s2.size ≤ s1.size := by rw [← hs2]; exact lft_le _ _ _ (Nat.le_refl _)
        have g3 : s3.size ≤ s2.size := by rw [← hs3]; exact lft_le _ _ _ (Nat.le_refl _)
        have g4 : s4.size ≤ s3.size := by rw [← hs4]; exact lft_le _ _ _ (Nat.le_refl _)
        have gn : nm.size ≤ 255 := by rw [← hnm]; exact Nat.le_trans (txt_size _ _ _) (by omega)
        have key : ∀ g y, Well g → S.data.toList = textT g ++ y → nm = g.name ∧ (z : Int) = g.size ∧ m = g.spans.length ∧ s4.data.toList = spansT g.spans ++ y ∧ bad4 = false :=
          fun g y hw hst => head_read hw rfl hst hn1 hs1 hb1 hnm hs2 hb2 hz hs3 hb3 hm hs4 hb4
        have HKF := Lib.hid key
        have v1 := wrap_u16 (n := n1) (by omega)
        have vz := wrap_u32 (n := z) lz
        have vm := wrap_u16 (n := m) (by omega)
        have HN1 := NumberD_crew HR.out 0 rfl hS 1 (by decide)
        rw [hn1, hs1, hb1] at HN1
        have HD1 := Lib.hid HN1
        clear HN1 hn1 hs1 hb1 key HR
        go_wp2_with fail
        refine HD1.out.mono ?_
        rintro e w3 ⟨rfl, h1⟩
        have HN2 := TextD_crew h1 0 rfl (n1 : Int)
        rw [hnm, hs2, hb2] at HN2
        have HD2 := Lib.hid HN2
        clear HD1 HN2 h1 hnm hs2 hb2 rc1
        go_wp2_with fail
        refine HD2.out.mono ?_
        rintro e w4 ⟨rfl, h2⟩
        have h2f := h2.block #[.string nm, .int .i64 0, .slice none 0 0] 39
        have HN3 := NumberD_crew h2f 0 rfl (by omega) 4 (by decide)
        rw [hz, hs3, hb3] at HN3
        have HD3 := Lib.hid HN3
        obtain ⟨fb, hfb⟩ : ∃ fb, w4.heap.size = fb := ⟨_, rfl⟩
        rw [hfb] at HD3
        clear HD2 HN3 h2 h2f hz hs3 hb3
        go_wp2_with fail
        refine HD3.out.mono ?_
        rintro e w5 ⟨rfl, h3⟩
        have y1 := (h3.at 3 rfl (j := 1) rfl)
        have h3s := h3.set 3 rfl 1 (.int .i64 (z : Int))
        have HN4 := NumberD_crew h3s 0 rfl (by omega) 1 (by decide)
        rw [hm, hs4, hb4] at HN4
        have HD4 := Lib.hid HN4
        clear HD3 HN4 h3 h3s hm hs4 hb4
        go_wp2_with fail
        refine HD4.out.mono ?_
        rintro e w6 ⟨rfl, h4⟩
        have h5 := h4.nil 59 2
        have HC := Lib.hid h5
        clear HD4 h4 h5 y1
        go_wp2_with fail
        go_loopw [13] (fun i wr => ∃ (q : Nat) (Z : ByteArray) (bd : Bool) (M : List SpI) (a : Option Addr) (c : Nat), i = .int .i64 q ∧ q ≤ m ∧ Z.size ≤ 1000000 ∧ Hid (M.length = q ∧ ∀ g y, Well g → S.data.toList = textT g ++ y → Z.data.toList = spansT (g.spans.drop q) ++ y ∧ bd = false ∧ M = g.spans.take q) ∧
          Hid (Crew (fun _ => False) w [blkT rb #[.string Z, .bool bd] 67, rowT 0 39 3 (.slice av k cv) k (filesC R), deepT R, blkT fb #[.string nm, .int .i64 (z : Int), .slice a q c] 39, rowT 0 59 2 (.slice a q c) q (flatI M)] wr)) (fun i _ => (m - intOf i).toNat)
        case atStart => exact ⟨0, s4, bad4, [], none, 0, rfl, Nat.zero_le _, by omega, ⟨rfl, fun g y hw hst => ⟨(HKF.out g y hw hst).2.2.2.1, (HKF.out g y hw hst).2.2.2.2, rfl⟩⟩, HC.out⟩
        case round =>
          obtain ⟨q, Z, bd, M, a, c, rfl, hq, hZ, HM, HQ⟩ := hrel
          clear HC
          have rc2 : wr.cell? ⟨rb, 1, none⟩ = some (.bool bd) := (HQ.out.at 0 rfl (j := 1) rfl).1
          by_cases hgo2 : q < m ∧ bd = false
          · obtain ⟨hlq, rfl⟩ := hgo2
            have hlqI : (q : Int) < m := by omega
            obtain ⟨a1, ha1⟩ : ∃ n, num Z false 2 = n := ⟨_, rfl⟩
            obtain ⟨Z1, hZ1⟩ : ∃ T, lft Z false 2 = T := ⟨_, rfl⟩
            obtain ⟨e1b, he1b⟩ : ∃ T, no Z false 2 = T := ⟨_, rfl⟩
            obtain ⟨a2, ha2⟩ : ∃ n, num Z1 e1b 2 = n := ⟨_, rfl⟩
            obtain ⟨Z2, hZ2⟩ : ∃ T, lft Z1 e1b 2 = T := ⟨_, rfl⟩
            obtain ⟨e2b, he2b⟩ : ∃ T, no Z1 e1b 2 = T := ⟨_, rfl⟩
            have z1 : Z1.size ≤ 1000000 := by rw [← hZ1]; exact lft_le _ _ _ hZ
            have z2 : Z2.size ≤ 1000000 := by rw [← hZ2]; exact lft_le _ _ _ z1
            have la1 : a1 < 65536 := by rw [← ha1]; exact num_lt Z false 2
            have la2 : a2 < 65536 := by rw [← ha2]; exact num_lt Z1 e1b 2
            have w1' := wrap_u16 la1
            have w2' := wrap_u16 la2
            have HJ : Hid (∀ g y, Well g → S.data.toList = textT g ++ y → Z2.data.toList = spansT (g.spans.drop (q + 1)) ++ y ∧ e2b = false ∧ M ++ [((a1 : Int), (a2 : Int))] = g.spans.take (q + 1)) := fun g y hw hst => by
              obtain ⟨e1, _, e3⟩ := HM.out.2 g y hw hst
              have hkg : q < g.spans.length := by rw [← (HKF.out g y hw hst).2.2.1]; exact hlq
              have hsp := hw.span (g.spans.getD q (0, 0)) (getD_mem hkg)
              rw [drop_at g.spans q (0, 0) hkg, spansT_cons, spanT] at e1
              rw [take_snoc g.spans q (0, 0) hkg, ← e3]
              generalize g.spans.getD q (0, 0) = sp at *
              simp only [List.append_assoc] at e1
              obtain ⟨r1, r2, r3⟩ := read_num (k := 2) (by decide) (by omega) e1
              have f1 : a1 = sp.1.toNat := ha1.symm.trans r1
              have f2 : e1b = false := he1b.symm.trans r3
              rw [show ((2 : Nat) : Int) = 2 from rfl, hZ1] at r2
              subst f2
              obtain ⟨t1, t2, t3⟩ := read_num (k := 2) (by decide) (by omega) r2
              have f3 : a2 = sp.2.toNat := ha2.symm.trans t1
              rw [show ((2 : Nat) : Int) = 2 from rfl, hZ2] at t2
              refine ⟨t2, he2b.symm.trans t3, ?_⟩
              rw [show ((a1 : Int), (a2 : Int)) = sp from Prod.ext (by show (a1 : Int) = sp.1; omega) (by show (a2 : Int) = sp.2; omega)]
            have HC1 := NumberD_crew HQ.out 0 rfl hZ 2 (by decide)
            rw [ha1, hZ1, he1b] at HC1
            have HD1 := Lib.hid HC1
            have HC2 : ∀ W, Crew (fun _ => False) w [blkT rb #[.string Z1, .bool e1b] 67, rowT 0 39 3 (.slice av k cv) k (filesC R), deepT R, blkT fb #[.string nm, .int .i64 (z : Int), .slice a q c] 39, rowT 0 59 2 (.slice a q c) q (flatI M)] W →
                Calls Try.prog 31 #[.pointer (some ⟨rb, 0, none⟩), .int .i64 2] W fun e w' => e = .returned (.int .u64 (a2 : Nat)) ∧ Crew (fun _ => False) w [blkT rb #[.string Z2, .bool e2b] 67, rowT 0 39 3 (.slice av k cv) k (filesC R), deepT R, blkT fb #[.string nm, .int .i64 (z : Int), .slice a q c] 39, rowT 0 59 2 (.slice a q c) q (flatI M)] w' := fun W hW => by
              have := NumberD_crew hW 0 rfl z1 2 (by decide)
              rw [ha2, hZ2, he2b] at this
              exact this
            have HD2 := Lib.hid HC2
            have HZ2 := Lib.hid z2
            clear HC1 HC2 ha1 hZ1 he1b ha2 hZ2 he2b z1 la1 la2 HQ
            go_wp2_with fail
            refine HD1.out.mono ?_
            rintro e w7 ⟨rfl, h7⟩
            have HE1 := Lib.hid (h7.below ((Below.refl _ w7).drew))
            have c1 : w7.drew.cell? ⟨fb, 2, none⟩ = some (.slice a q c) := (h7.at 3 rfl (j := 2) rfl).1
            clear HD1 h7 rc2
            go_wp2
            go_region_law
              (first
                | (go_simp; go_at_call 31; refine (HD2.out _ HE1.out).mono ?_; rintro e w12 ⟨rfl, h12⟩; have HE2 := Lib.hid h12; have c2 := (h12.at 3 rfl (j := 2) rfl).1; have lb2 := h12.lt 3 rfl; clear h12)
                | (refine step_append_crew (HE2.out.below ((Below.refl _ w12).alloc (Nat.le_refl _) (.cells #[.int .i64 (a1 : Int), .int .i64 (a2 : Int)] 59))) 4 rfl (by rfl) (.tmp 73) (.tmp 79) 33 (by rfl) (.agg #[.int .i64 0, .int .i64 0]) 16 Try.underlying33 infoP rfl (by decide) (by simp [Act.eval]) ⟨w12.heap.size, 0, none⟩ 1 1 [.int .i64 (a1 : Int), .int .i64 (a2 : Int)] (by simp [Act.eval]) rfl (news_span w12 _ _ _) (by simp [Value.oneCell']) (by unfold maxLen; omega) (by omega) ?_; intro v' w13 hF; obtain ⟨a7, c7, rfl⟩ := hF.slice 4 rfl; have HE3 := Lib.hid hF; obtain ⟨x0, y0⟩ := (hF.at 3 rfl (j := 2) rfl); clear hF))
            all_goals
              have HF : Hid (Crew (fun _ => False) w [blkT rb #[.string Z2, .bool e2b] 67, rowT 0 39 3 (.slice av k cv) k (filesC R), deepT R, blkT fb #[.string nm, .int .i64 (z : Int), .slice a7 (q + 1) c7] 39, rowT 0 59 2 (.slice a7 (q + 1) c7) (q + 1) (flatI (M ++ [((a1 : Int), (a2 : Int))]))] (w13.setCell ⟨fb, 2, none⟩ (.slice a7 (q + 1) c7))) := by
                have h := HE3.out.set 3 rfl 2 (.slice a7 (q + 1) c7)
                rw [flatI_append]
                exact h
              clear HE1 HE2 HE3 x0 y0 c1 c2 lb2
              go_wp2
              exact ⟨⟨q + 1, Z2, e2b, M ++ [((a1 : Int), (a2 : Int))], a7, c7, by go_num, by omega, HZ2.out, ⟨by rw [List.length_append, HM.out.1]; rfl, HJ.out⟩, HF⟩, by simp [intOf]; omega⟩
          · have HEND : Hid (∀ g y, Well g → S.data.toList = textT g ++ y → Z.data.toList = y ∧ bd = false ∧ (⟨nm, (z : Int), M⟩ : Fl) = g) := fun g y hw hst => by
              obtain ⟨k1, k2, k3, _, _⟩ := HKF.out g y hw hst
              obtain ⟨e1, e2, e3⟩ := HM.out.2 g y hw hst
              have hqm : q = m := by
                by_cases h : q < m
                · exact absurd ⟨h, e2⟩ hgo2
                · omega
              rw [hqm, k3] at e1 e3
              rw [List.drop_of_length_le (Nat.le_refl _)] at e1
              rw [List.take_of_length_le (Nat.le_refl _)] at e3
              exact ⟨e1, e2, fl_ext k1 k2 e3⟩
            have HI2 : Hid ((R ++ [((⟨nm, (z : Int), M⟩, a, c) : FR)]).length = k + 1 ∧ (∀ r ∈ R ++ [((⟨nm, (z : Int), M⟩, a, c) : FR)], r.1.name.size ≤ 255 ∧ r.1.spans.length ≤ 255) ∧ ∀ L, Dir L → t.data.toList = bodyT L → Z.data.toList = filesT (L.drop (k + 1)) ∧ bd = false ∧ (R ++ [((⟨nm, (z : Int), M⟩, a, c) : FR)]).map (·.1) = L.take (k + 1)) := by
              refine ⟨by rw [List.length_append, HI.out.1]; rfl, fun r hr => ?_, fun L hL hst => ?_⟩
              · rw [List.mem_append, List.mem_singleton] at hr
                rcases hr with hr | rfl
                · exact HI.out.2.1 r hr
                · exact ⟨gn, by show M.length ≤ 255; rw [HM.out.1]; omega⟩
              · obtain ⟨e1, _, e3⟩ := HI.out.2.2 L hL hst
                have hkl : k < L.length := by rw [← (HKEY.out L hL hst).1]; exact hlt
                rw [drop_at L k default hkl, filesT_cons] at e1
                obtain ⟨i1, i2, i3⟩ := HEND.out _ _ (hL.well _ (getD_mem hkl)) e1
                refine ⟨i1, i2, ?_⟩
                rw [List.map_append, e3, take_snoc L k default hkl, ← i3]
                rfl
            have hq4 := HQ.out
            have hMq := HM.out.1
            subst hMq
            have h8 := hq4.pick [0, 1, 2, 4] (by decide) rfl
            have h9 : Crew (fun _ => False) w [blkT rb #[.string Z, .bool bd] 67, rowT 0 39 3 (.slice av k cv) k (filesC R), deepT (R ++ [((⟨nm, (z : Int), M⟩, a, c) : FR)])] wr := Crew.deepen (l := [blkT rb #[.string Z, .bool bd] 67, rowT 0 39 3 (.slice av k cv) k (filesC R), deepT R]) (r := ((⟨nm, (z : Int), M⟩, a, c) : FR)) h8 2 rfl
            have x0 : wr.cell? ⟨fb, 0, none⟩ = some (.string nm) := (hq4.at 3 rfl (j := 0) rfl).1
            have x1 : wr.cell? ⟨fb, 1, none⟩ = some (.int .i64 (z : Int)) := (hq4.at 3 rfl (j := 1) rfl).1
            have x2 : wr.cell? ⟨fb, 2, none⟩ = some (.slice a M.length c) := (hq4.at 3 rfl (j := 2) rfl).1
            have HE := Lib.hid (h9.below ((Below.refl _ wr).alloc (Nat.le_refl _) (.cells #[.string nm, .int .i64 (z : Int), .slice a M.length c] 39)))
            clear hq4 h8 h9 HQ HM
            cases bd with
            | true =>
              by_cases hqI : M.length < m
              · have hqI' : (M.length : Int) < m := by omega
                go_wp2_with (at_builtin; refine wpList_append_crew HE.out 1 rfl rfl (.tmp 82) (.tmp 84) 28 rfl (.agg #[.string ⟨#[]⟩, .int .i64 0, .slice none 0 0]) 48 Try.underlying28 infoR rfl (by decide) rfl ⟨wr.heap.size, 0, none⟩ 1 1 [.string nm, .int .i64 (z : Int), .slice a M.length c] rfl rfl (news_three wr _ _ _ _) (by simp [Value.oneCell']) (by unfold maxLen; omega) (by omega) ?ap)
                case ap =>
                  intro v' w3 hc
                  have HG : Hid (Crew (fun _ => False) w [blkT rb #[.string Z, .bool true] 67, rowT 0 39 3 v' (k + 1) (filesC (R ++ [((⟨nm, (z : Int), M⟩, a, c) : FR)])), deepT (R ++ [((⟨nm, (z : Int), M⟩, a, c) : FR)])] w3) := by
                    unfold Hid
                    rw [filesC_snoc]
                    exact hc
                  clear hc HE
                  go_wp2
                  exact ⟨⟨k + 1, Z, true, R ++ [((⟨nm, (z : Int), M⟩, a, c) : FR)], by go_num, by omega, hZ, HI2, HG.out⟩, by simp [intOf]; omega⟩
              · have hqI' : ¬ (M.length : Int) < m := by omega
                go_wp2_with (at_builtin; refine wpList_append_crew HE.out 1 rfl rfl (.tmp 82) (.tmp 84) 28 rfl (.agg #[.string ⟨#[]⟩, .int .i64 0, .slice none 0 0]) 48 Try.underlying28 infoR rfl (by decide) rfl ⟨wr.heap.size, 0, none⟩ 1 1 [.string nm, .int .i64 (z : Int), .slice a M.length c] rfl rfl (news_three wr _ _ _ _) (by simp [Value.oneCell']) (by unfold maxLen; omega) (by omega) ?ap)
                case ap =>
                  intro v' w3 hc
                  have HG : Hid (Crew (fun _ => False) w [blkT rb #[.string Z, .bool true] 67, rowT 0 39 3 v' (k + 1) (filesC (R ++ [((⟨nm, (z : Int), M⟩, a, c) : FR)])), deepT (R ++ [((⟨nm, (z : Int), M⟩, a, c) : FR)])] w3) := by
                    unfold Hid
                    rw [filesC_snoc]
                    exact hc
                  clear hc HE
                  go_wp2
                  exact ⟨⟨k + 1, Z, true, R ++ [((⟨nm, (z : Int), M⟩, a, c) : FR)], by go_num, by omega, hZ, HI2, HG.out⟩, by simp [intOf]; omega⟩
            | false =>
              have hqI : ¬ M.length < m := fun h => hgo2 ⟨h, rfl⟩
              have hqI' : ¬ (M.length : Int) < m := by omega
              go_wp2_with (at_builtin; refine wpList_append_crew HE.out 1 rfl rfl (.tmp 82) (.tmp 84) 28 rfl (.agg #[.string ⟨#[]⟩, .int .i64 0, .slice none 0 0]) 48 Try.underlying28 infoR rfl (by decide) rfl ⟨wr.heap.size, 0, none⟩ 1 1 [.string nm, .int .i64 (z : Int), .slice a M.length c] rfl rfl (news_three wr _ _ _ _) (by simp [Value.oneCell']) (by unfold maxLen; omega) (by omega) ?ap)
              case ap =>
                intro v' w3 hc
                have HG : Hid (Crew (fun _ => False) w [blkT rb #[.string Z, .bool false] 67, rowT 0 39 3 v' (k + 1) (filesC (R ++ [((⟨nm, (z : Int), M⟩, a, c) : FR)])), deepT (R ++ [((⟨nm, (z : Int), M⟩, a, c) : FR)])] w3) := by
                  unfold Hid
                  rw [filesC_snoc]
                  exact hc
                clear hc HE
                go_wp2
                exact ⟨⟨k + 1, Z, false, R ++ [((⟨nm, (z : Int), M⟩, a, c) : FR)], by go_num, by omega, hZ, ⟨HI2.out.1, HI2.out.2.1, fun L hL hst => ⟨(HI2.out.2.2 L hL hst).1, rfl, (HI2.out.2.2 L hL hst).2.2⟩⟩, HG.out⟩, by simp [intOf]; omega⟩
      · have HF := Lib.hid (files_own (rest := []) (by rw [List.append_nil]; exact HR.out.own 1 rfl) (HR.out.spans 2 rfl))
        have hl : (R.map (·.1)).length = k := by rw [List.length_map, HI.out.1]
        have hb2 : ∀ f ∈ R.map (·.1), f.name.size ≤ 140737488355328 ∧ f.spans.length ≤ 100000 := fun f hf => by
          obtain ⟨r, hr, rfl⟩ := List.mem_map.1 hf
          have := HI.out.2.1 r hr
          omega
        have HBL := Lib.hid HR.out.bel
        cases bd with
        | true =>
          have HE : Hid (¬ ∃ L, Dir L ∧ s = dirB L) := fun ⟨L, hL, hsL⟩ => by
            have := (HI.out.2.2 L hL (HNO.out L hsL)).2.1
            cases this
          have hput : ∃ (P : ByteArray) (x : Int), ∀ W, Below wr.heap.size wr W → Calls Try.prog 33 #[.slice av k cv] W fun e w' => e = .returned (.tuple #[.string P, .int .i64 x]) ∧ Below W.heap.size W w' := by
            by_cases hd : Dir (R.map (·.1))
            · exact ⟨_, _, fun W hW => PutD_yes (R.map (·.1)) av k cv W (FilesAt.below HF.out hW) hl hd⟩
            · exact ⟨_, _, fun W hW => PutD_no (R.map (·.1)) av k cv W (FilesAt.below HF.out hW) hl (by omega) hb2 hd⟩
          obtain ⟨P, px, hP⟩ := hput
          have HP := Lib.hid (hP wr (Below.refl _ _))
          clear hP hl hb2 HF
          by_cases hkI : k < n
          · have hkI' : (k : Int) < n := by omega
            go_wp2_with fail
            refine HP.out.mono ?_
            rintro e w8 ⟨rfl, hb8⟩
            have rc9 : w8.cell? ⟨rb, 1, none⟩ = some (.bool true) := ((HR.out.below hb8).at 0 rfl (j := 1) rfl).1
            have HB8 := Lib.hid (below_trans HBL.out hb8)
            clear hb8 rc1
            go_wp2
            go_ret2
            exact .inr ⟨HE.out, by rw [HER.out]; rfl, HB8.out⟩
          · have hkI' : ¬ (k : Int) < n := by omega
            go_wp2_with fail
            refine HP.out.mono ?_
            rintro e w8 ⟨rfl, hb8⟩
            have rc9 : w8.cell? ⟨rb, 1, none⟩ = some (.bool true) := ((HR.out.below hb8).at 0 rfl (j := 1) rfl).1
            have HB8 := Lib.hid (below_trans HBL.out hb8)
            clear hb8 rc1
            go_wp2
            go_ret2
            exact .inr ⟨HE.out, by rw [HER.out]; rfl, HB8.out⟩
        | false =>
          have hkn : k = n := by
            by_cases h : k < n
            · exact absurd ⟨h, rfl⟩ hgo
            · omega
          subst hkn
          have hkI' : ¬ (k : Int) < k := by omega
          have HKY : Hid (∀ L, s = dirB L → Dir L → R.map (·.1) = L) := fun L hsL hL => by
            rw [(HI.out.2.2 L hL (HNO.out L hsL)).2.2, (HKEY.out L hL (HNO.out L hsL)).1, List.take_of_length_le (Nat.le_refl _)]
          by_cases hd : Dir (R.map (·.1))
          · have HD := Lib.hid hd
            have HP := Lib.hid (PutD_yes (R.map (·.1)) av k cv wr HF.out hl hd)
            by_cases he : dirB (R.map (·.1)) = s
            · have hq : ((dirB (R.map (·.1))).toList == s.toList) = true := by rw [str_beq]; exact decide_eq_true he
              have HEq := Lib.hid he.symm
              have HLl := Lib.hid hl
              clear hd he hl hb2
              generalize dirB (R.map (·.1)) = D at HP hq
              go_wp2_with fail
              refine HP.out.mono ?_
              rintro e w8 ⟨rfl, hb8⟩
              have rc9 : w8.cell? ⟨rb, 1, none⟩ = some (.bool false) := ((HR.out.below hb8).at 0 rfl (j := 1) rfl).1
              have HB8 := Lib.hid (below_trans HBL.out hb8)
              have HF8 := Lib.hid (FilesAt.below HF.out hb8)
              clear hb8 rc1
              go_wp2
              go_ret2
              exact .inl ⟨R.map (·.1), av, cv, HD.out, HEq.out, by rw [HLl.out]; rfl, HF8.out, HB8.out⟩
            · have hq : ((dirB (R.map (·.1))).toList == s.toList) = false := by rw [str_beq]; exact decide_eq_false he
              have hq' : ((dirB (R.map (·.1))).toList != s.toList) = true := by rw [bne, hq]; rfl
              have HE : Hid (¬ ∃ L, Dir L ∧ s = dirB L) := fun ⟨L, hL, hsL⟩ => he (by rw [HKY.out L hsL hL, hsL])
              clear hd he hl hb2 HF
              generalize dirB (R.map (·.1)) = D at HP hq hq'
              go_wp2_with fail
              refine HP.out.mono ?_
              rintro e w8 ⟨rfl, hb8⟩
              have rc9 : w8.cell? ⟨rb, 1, none⟩ = some (.bool false) := ((HR.out.below hb8).at 0 rfl (j := 1) rfl).1
              have HB8 := Lib.hid (below_trans HBL.out hb8)
              clear hb8 rc1
              go_wp2
              go_ret2
              exact .inr ⟨HE.out, by rw [HER.out]; rfl, HB8.out⟩
          · have HP := Lib.hid (PutD_no (R.map (·.1)) av k cv wr HF.out hl (by omega) hb2 hd)
            have HE : Hid (¬ ∃ L, Dir L ∧ s = dirB L) := fun ⟨L, hL, hsL⟩ => hd (by rw [HKY.out L hsL hL]; exact hL)
            clear hd hl hb2 HF
            go_wp2_with fail
            refine HP.out.mono ?_
            rintro e w8 ⟨rfl, hb8⟩
            have rc9 : w8.cell? ⟨rb, 1, none⟩ = some (.bool false) := ((HR.out.below hb8).at 0 rfl (j := 1) rfl).1
            have HB8 := Lib.hid (below_trans HBL.out hb8)
            clear hb8 rc1
            go_wp2
            go_ret2
            exact .inr ⟨HE.out, by rw [HER.out]; rfl, HB8.out⟩
  · have HER : Hid (errT s = tkE s) := by unfold Hid errT; rw [if_neg h0]
    have HE : Hid (¬ ∃ L, Dir L ∧ s = dirB L) := fun ⟨L, _, hsL⟩ => h0 (by rw [hsL]; exact (tk_dir L).2)
    generalize tkE s = x at *
    have hx : (x == 0) = false := by rw [beq_eq_false_iff_ne]; exact h0
    go_enter Try.func12, Try.ntmps12
    go_wp2_with fail
    refine (HT.out _).mono ?_
    rintro e w1 ⟨rfl, hb1⟩
    go_wp2
    go_ret2
    exact .inr ⟨HE.out, by rw [HER.out]; rfl, hb1⟩

end Go.Proofs.Yteellffkjjllgaa
