/-
  The file that the program reads off a text, be it one or not. Conditions: as each theorem states them.
-/
import Derived.Test.YteellffkjjllgaaGreatQDrNum
namespace Go.Rc7
open Go.Rc5 Go.Rc6

theorem say_put1 {n : Nat} (h : n < 256) : Rc2.say (Rc2.put 1 n) = n := say_put_lt 1 n h

end Go.Rc7
namespace Go.Proofs.YteellffkjjllgaaGreat
open Go.RowKit Go.Rc5 Go.Rc6 Go.Rc7

theorem no_at {s : ByteArray} {x y : List UInt8} {n : Nat} (h : s.data.toList = x ++ y) (hx : x.length = n) : no s false n = false := by
  have hs : s.size = (x ++ y).length := by rw [← h]; simp
  rw [List.length_append] at hs
  unfold no
  rw [Bool.false_or, Bool.or_eq_false_iff, decide_eq_false_iff_not, decide_eq_false_iff_not]
  omega

theorem txt_at {s : ByteArray} {x y : List UInt8} {n : Nat} (h : s.data.toList = x ++ y) (hx : x.length = n) : txt s false n = ⟨x.toArray⟩ := by
  unfold txt
  rw [no_at h hx]
  simp only [Bool.false_eq_true, if_false, Int.toNat_natCast]
  rw [extract_take, h, List.take_left' hx]

theorem lft_at {s : ByteArray} {x y : List UInt8} {n : Nat} (h : s.data.toList = x ++ y) (hx : x.length = n) : (lft s false n).data.toList = y := by
  unfold lft
  rw [no_at h hx]
  simp only [Bool.false_eq_true, if_false, Int.toNat_natCast]
  rw [extract_list, h, List.drop_left' hx]

theorem num_at {s : ByteArray} {x y : List UInt8} {n : Nat} (h : s.data.toList = x ++ y) (hx : x.length = n) (hn : n ≤ 8) : num s false n = Rc2.say x := by
  unfold num
  have e : (false || decide (8 < (n : Int))) = false := by simp; omega
  rw [e, txt_at h hx]
  unfold Rc2.get
  rw [List.take_of_length_le (by simpa [hx] using hn)]

theorem txt_size (s : ByteArray) (bad : Bool) (n : Nat) : (txt s bad n).size ≤ n := by
  unfold txt
  split
  · exact Nat.zero_le _
  · rw [ByteArray.size_extract, Int.toNat_natCast]
    omega

/-- A number that stands ahead in the text is read, and what is left is what stands behind it. -/
theorem read_num {s : ByteArray} {v k : Nat} {y : List UInt8} (hk : k ≤ 8) (hv : v < 256 ^ k) (h : s.data.toList = Rc2.put k v ++ y) : num s false k = v ∧ (lft s false k).data.toList = y ∧ no s false k = false := by
  have hx : (Rc2.put k v).length = k := Rc2.put_length k v
  exact ⟨by rw [num_at h hx hk, say_put_lt k v hv], lft_at h hx, no_at h hx⟩

/-- What was read of a file, and what is left. -/
def FileRead (s : ByteArray) (bad : Bool) (f : Fl) (s' : ByteArray) (bad' : Bool) : Prop :=
  s'.size ≤ s.size ∧ FlOk f ∧ f.name.size ≤ 255 ∧ f.spans.length ≤ 255 ∧ ∀ g y, Well g → bad = false → s.data.toList = textT g ++ y → f = g ∧ s'.data.toList = y ∧ bad' = false

/-- A file that was read, with spans of its own; and the reader as it then is. -/
def FileBack (b : Nat) (s : ByteArray) (bad : Bool) (w : World) (e : Ending) (w' : World) : Prop :=
  ∃ (f : Fl) (p : Option Addr) (c : Nat) (s' : ByteArray) (bad' : Bool), e = .returned (.agg #[.string f.name, .int .i64 f.size, .slice p f.spans.length c]) ∧ FileRead s bad f s' bad' ∧ Crew (fun k => k = b) w [blkT b #[.string s', .bool bad'] 94, spT (.slice p f.spans.length c) f.spans] w'

set_option maxRecDepth 100000 in
set_option maxHeartbeats 16000000 in
theorem readFile_any (b : Nat) (s : ByteArray) (bad : Bool) (hs : s.size ≤ 1000000) (w : World) (h : Rd 94 b s bad w) :
    Calls Tryz.prog 52 #[.pointer (some ⟨b, 0, none⟩)] w (FileBack b s bad w) := by
  have H0 : Crew (fun k => k = b) w [blkT b #[.string s, .bool bad] 94] w := Crew.only (t := blkT b #[.string s, .bool bad] 94) ⟨h, rfl⟩
  have H1 := H0.block #[.string ⟨#[]⟩, .int .i64 0, .slice none 0 0] 40
  have HB0 := Lib.hid h.lt
  obtain ⟨n1, hn1⟩ : ∃ n, num s bad 1 = n := ⟨_, rfl⟩
  obtain ⟨s1, hs1⟩ : ∃ T, lft s bad 1 = T := ⟨_, rfl⟩
  obtain ⟨bad1, hb1⟩ : ∃ T, no s bad 1 = T := ⟨_, rfl⟩
  obtain ⟨nm, hnm⟩ : ∃ T, txt s1 bad1 (n1 : Int) = T := ⟨_, rfl⟩
  obtain ⟨s2, hs2⟩ : ∃ T, lft s1 bad1 (n1 : Int) = T := ⟨_, rfl⟩
  obtain ⟨bad2, hb2⟩ : ∃ T, no s1 bad1 (n1 : Int) = T := ⟨_, rfl⟩
  obtain ⟨z, hz⟩ : ∃ n, num s2 bad2 4 = n := ⟨_, rfl⟩
  obtain ⟨s3, hs3⟩ : ∃ T, lft s2 bad2 4 = T := ⟨_, rfl⟩
  obtain ⟨bad3, hb3⟩ : ∃ T, no s2 bad2 4 = T := ⟨_, rfl⟩
  obtain ⟨m, hm⟩ : ∃ n, num s3 bad3 1 = n := ⟨_, rfl⟩
  obtain ⟨s4, hs4⟩ : ∃ T, lft s3 bad3 1 = T := ⟨_, rfl⟩
  obtain ⟨bad4, hb4⟩ : ∃ T, no s3 bad3 1 = T := ⟨_, rfl⟩
  have l1 : n1 < 256 := by rw [← hn1]; exact num_lt s bad 1
  have lz : z < 4294967296 := by rw [← hz]; exact num_lt s2 bad2 4
  have lm : m < 256 := by rw [← hm]; exact num_lt s3 bad3 1
  have g1 : s1.size ≤ s.size := by rw [← hs1]; exact lft_le _ _ _ (Nat.le_refl _)
  have g2 : s2.size ≤ s1.size := by rw [← hs2]; exact lft_le _ _ _ (Nat.le_refl _)
  have g3 : s3.size ≤ s2.size := by rw [← hs3]; exact lft_le _ _ _ (Nat.le_refl _)
  have g4 : s4.size ≤ s3.size := by rw [← hs4]; exact lft_le _ _ _ (Nat.le_refl _)
  have gn : nm.size ≤ 255 := by rw [← hnm]; exact Nat.le_trans (txt_size _ _ _) (by omega)
  have key : ∀ g y, Well g → bad = false → s.data.toList = textT g ++ y → nm = g.name ∧ (z : Int) = g.size ∧ m = g.spans.length ∧ s4.data.toList = spansT g.spans ++ y ∧ bad4 = false := by
    intro g y hw hbad hst
    subst hbad
    have q1 := hw.name_le
    have q2 := hw.lo
    have q3 := hw.hi
    have q4 := hw.many
    unfold textT headT at hst
    simp only [List.append_assoc] at hst
    obtain ⟨r1, r2, r3⟩ := read_num (k := 1) (by decide) (by omega) hst
    have e1 : n1 = g.name.size := hn1.symm.trans r1
    have e2 : bad1 = false := hb1.symm.trans r3
    rw [show ((1 : Nat) : Int) = 1 from rfl, hs1] at r2
    have hx : g.name.data.toList.length = n1 := by rw [e1]; simp
    subst e2
    have r4 := txt_at r2 hx
    have r5 := lft_at r2 hx
    have r6 := no_at r2 hx
    rw [hnm] at r4
    rw [hs2] at r5
    rw [hb2] at r6
    subst r6
    obtain ⟨r7, r8, r9⟩ := read_num (k := 4) (by decide) (by omega) r5
    have e3 : z = g.size.toNat := hz.symm.trans r7
    have e4 : bad3 = false := hb3.symm.trans r9
    rw [show ((4 : Nat) : Int) = 4 from rfl, hs3] at r8
    subst e4
    obtain ⟨t1, t2, t3⟩ := read_num (k := 1) (by decide) (by omega) r8
    rw [show ((1 : Nat) : Int) = 1 from rfl, hs4] at t2
    exact ⟨by rw [r4], by omega, hm.symm.trans t1, t2, hb4.symm.trans t3⟩
  have HKEY := Lib.hid key
  have u1 := wrap_u16 (n := n1) (by omega)
  have uz := wrap_u32 (n := z) lz
  have HN1 := Number_crew H1 0 rfl hs 1 (by decide)
  rw [hn1, hs1, hb1] at HN1
  have HD1 := Lib.hid HN1
  clear HN1 hn1 hs1 hb1 h H0 H1 key
  go_enter Tryz.func52, Tryz.ntmps52
  go_wp2_with fail
  refine HD1.out.mono ?_
  rintro e w1 ⟨rfl, h1⟩
  have HN2 := Text_crew h1 0 rfl (n1 : Int)
  rw [hnm, hs2, hb2] at HN2
  have HD2 := Lib.hid HN2
  clear HD1 HN2 h1 hnm hs2 hb2
  go_wp2_with fail
  refine HD2.out.mono ?_
  rintro e w2 ⟨rfl, h2⟩
  have HN3 := Number_crew h2 0 rfl (by omega) 4 (by decide)
  rw [hz, hs3, hb3] at HN3
  have HD3 := Lib.hid HN3
  clear HD2 HN3 h2 hz hs3 hb3
  go_wp2_with fail
  refine HD3.out.mono ?_
  rintro e w3 ⟨rfl, h3⟩
  have h4 := h3.block #[.string nm, .int .i64 (z : Int), .slice none 0 0] 40
  have HN4 := Number_crew h4 0 rfl (by omega) 1 (by decide)
  rw [hm, hs4, hb4] at HN4
  have HD4 := Lib.hid HN4
  clear HD3 HN4 h3 h4 hm hs4 hb4
  go_wp2_with fail
  refine HD4.out.mono ?_
  rintro e w4 ⟨rfl, h5⟩
  have h6 := h5.nil 38 2
  simp only [List.set_cons_zero, List.cons_append, List.nil_append] at h6
  obtain ⟨hb, hhb⟩ : ∃ hb, w3.heap.size = hb := ⟨_, rfl⟩
  rw [hhb] at h6 ⊢
  have HC := Lib.hid h6
  clear HD4 h5 h6
  go_wp2_with fail
  go_loopw [15] (fun i wr => ∃ (k : Nat) (S : ByteArray) (bd : Bool) (M : List SpI) (a : Option Addr) (c : Nat), i = .int .u64 k ∧ k ≤ m ∧ S.size ≤ s4.size ∧ Hid (M.length = k ∧ (∀ x ∈ M, In64 x.1 ∧ In64 x.2) ∧ ∀ g y, Well g → bad = false → s.data.toList = textT g ++ y → S.data.toList = spansT (g.spans.drop k) ++ y ∧ bd = false ∧ M = g.spans.take k) ∧
    Hid (Crew (fun k => k = b) w [blkT b #[.string S, .bool bd] 94, blkT w.heap.size #[.string ⟨#[]⟩, .int .i64 0, .slice none 0 0] 40, blkT hb #[.string nm, .int .i64 (z : Int), .slice a k c] 40, rowT 0 38 2 (.slice a k c) k (flatI M)] wr)) (fun i _ => (m - intOf i).toNat)
  case atStart => exact ⟨0, s4, bad4, [], none, 0, rfl, Nat.zero_le _, Nat.le_refl _, ⟨rfl, fun x hx => (by cases hx), fun g y hw hbd hst => ⟨(HKEY.out g y hw hbd hst).2.2.2.1, (HKEY.out g y hw hbd hst).2.2.2.2, rfl⟩⟩, HC.out⟩
  case round =>
    obtain ⟨k, S, bd, M, a, c, rfl, hk, hS, HI, HR⟩ := hrel
    clear HC
    by_cases hlt : k < m
    · have hltI : (k : Int) < m := by omega
      obtain ⟨n1', hn1⟩ : ∃ n, num S bd 2 = n := ⟨_, rfl⟩
      obtain ⟨S1, hS1⟩ : ∃ T, lft S bd 2 = T := ⟨_, rfl⟩
      obtain ⟨bd1, hbd1⟩ : ∃ T, no S bd 2 = T := ⟨_, rfl⟩
      obtain ⟨n2, hn2⟩ : ∃ n, num S1 bd1 2 = n := ⟨_, rfl⟩
      obtain ⟨S2, hS2⟩ : ∃ T, lft S1 bd1 2 = T := ⟨_, rfl⟩
      obtain ⟨bd2, hbd2⟩ : ∃ T, no S1 bd1 2 = T := ⟨_, rfl⟩
      have z1 : S1.size ≤ s4.size := by rw [← hS1]; exact lft_le _ _ _ hS
      have z2 : S2.size ≤ s4.size := by rw [← hS2]; exact lft_le _ _ _ z1
      have l1' : n1' < 65536 := by rw [← hn1]; exact num_lt S bd 2
      have l2' : n2 < 65536 := by rw [← hn2]; exact num_lt S1 bd1 2
      have v1 := wrap_u16 l1'
      have v2 := wrap_u16 l2'
      have HC1 := Number_crew (HR.out.below ((Below.refl _ wr).drew)) 0 rfl (by omega) 2 (by decide)
      rw [hn1, hS1, hbd1] at HC1
      have HD1 := Lib.hid HC1
      have HC2 : ∀ W, Crew (fun k => k = b) w [blkT b #[.string S1, .bool bd1] 94, blkT w.heap.size #[.string ⟨#[]⟩, .int .i64 0, .slice none 0 0] 40, blkT hb #[.string nm, .int .i64 (z : Int), .slice a k c] 40, rowT 0 38 2 (.slice a k c) k (flatI M)] W →
          Calls Tryz.prog 51 #[.pointer (some ⟨b, 0, none⟩), .int .i64 2] W fun e w' => e = .returned (.int .u64 (n2 : Nat)) ∧ Crew (fun k => k = b) w [blkT b #[.string S2, .bool bd2] 94, blkT w.heap.size #[.string ⟨#[]⟩, .int .i64 0, .slice none 0 0] 40, blkT hb #[.string nm, .int .i64 (z : Int), .slice a k c] 40, rowT 0 38 2 (.slice a k c) k (flatI M)] w' := fun W hW => by
        have := Number_crew hW 0 rfl (by omega) 2 (by decide)
        rw [hn2, hS2, hbd2] at this
        exact this
      have HD2 := Lib.hid HC2
      have c0 := (HR.out.at 2 rfl (j := 2) rfl).1
      have HJ : Hid (∀ g y, Well g → bad = false → s.data.toList = textT g ++ y → S2.data.toList = spansT (g.spans.drop (k + 1)) ++ y ∧ bd2 = false ∧ M ++ [((n1' : Int), (n2 : Int))] = g.spans.take (k + 1)) := fun g y hw hbd hst => by
        obtain ⟨e1, e2, e3⟩ := HI.out.2.2 g y hw hbd hst
        subst e2
        have hkg : k < g.spans.length := by rw [← (HKEY.out g y hw hbd hst).2.2.1]; exact hlt
        have hsp := hw.span (g.spans.getD k (0, 0)) (by
          rw [List.getD_eq_getElem?_getD, List.getElem?_eq_getElem hkg]
          exact List.getElem_mem hkg)
        have hdr : g.spans.drop k = g.spans.getD k (0, 0) :: g.spans.drop (k + 1) := by
          rw [List.drop_eq_getElem_cons hkg, List.getD_eq_getElem?_getD, List.getElem?_eq_getElem hkg]
          rfl
        rw [hdr, spansT_cons, spanT] at e1
        rw [take_snoc g.spans k (0, 0) hkg, ← e3]
        generalize g.spans.getD k (0, 0) = sp at *
        simp only [List.append_assoc] at e1
        obtain ⟨r1, r2, r3⟩ := read_num (k := 2) (by decide) (by omega) e1
        have f1 : n1' = sp.1.toNat := hn1.symm.trans r1
        have f2 : bd1 = false := hbd1.symm.trans r3
        rw [show ((2 : Nat) : Int) = 2 from rfl, hS1] at r2
        subst f2
        obtain ⟨t1, t2, t3⟩ := read_num (k := 2) (by decide) (by omega) r2
        have f3 : n2 = sp.2.toNat := hn2.symm.trans t1
        rw [show ((2 : Nat) : Int) = 2 from rfl, hS2] at t2
        refine ⟨t2, hbd2.symm.trans t3, ?_⟩
        rw [show ((n1' : Int), (n2 : Int)) = sp from Prod.ext (by show (n1' : Int) = sp.1; omega) (by show (n2 : Int) = sp.2; omega)]
      have HL1 : Hid (n1' < 65536 ∧ n2 < 65536) := ⟨l1', l2'⟩
      have HZ2 := Lib.hid z2
      clear HC1 HC2 hn1 hS1 hbd1 hn2 hS2 hbd2 z1 l1' l2'
      go_wp2
      go_region_law
        (first
          | (go_simp; go_at_call 51; refine HD1.out.mono ?_; rintro e w11 ⟨rfl, h11⟩; have HE1 := Lib.hid h11; have c1 := (h11.at 2 rfl (j := 2) rfl).1; clear h11)
          | (go_simp; go_at_call 51; refine (HD2.out _ HE1.out).mono ?_; rintro e w12 ⟨rfl, h12⟩; have HE2 := Lib.hid h12; have c2 := (h12.at 2 rfl (j := 2) rfl).1; have lb2 := h12.lt 2 rfl; clear h12)
          | (refine step_append_crew (HE2.out.below ((Below.refl _ w12).alloc (Nat.le_refl _) (.cells #[.int .i64 (n1' : Int), .int .i64 (n2 : Int)] 38))) 3 rfl (by rfl) (.tmp 18) (.tmp 26) 23 (by rfl) (.agg #[.int .i64 0, .int .i64 0]) 16 Tryz.underlying23 infoP rfl (by decide) (by simp [Act.eval]) ⟨w12.heap.size, 0, none⟩ 1 1 [.int .i64 (n1' : Int), .int .i64 (n2 : Int)] (by simp [Act.eval]) rfl (news_span w12 _ _ _) (by simp [Value.oneCell']) (by unfold maxLen; omega) (by omega) ?_; intro v' w13 hF; obtain ⟨a7, c7, rfl⟩ := hF.slice 3 rfl; have HE3 := Lib.hid hF; obtain ⟨x0, y0⟩ := (hF.at 2 rfl (j := 2) rfl); clear hF))
      all_goals
        have HF : Hid (Crew (fun k => k = b) w [blkT b #[.string S2, .bool bd2] 94, blkT w.heap.size #[.string ⟨#[]⟩, .int .i64 0, .slice none 0 0] 40, blkT hb #[.string nm, .int .i64 (z : Int), .slice a7 (k + 1) c7] 40, rowT 0 38 2 (.slice a7 (k + 1) c7) (k + 1) (flatI (M ++ [((n1' : Int), (n2 : Int))]))] (w13.setCell ⟨hb, 2, none⟩ (.slice a7 (k + 1) c7))) := by
          have h := HE3.out.set 2 rfl 2 (.slice a7 (k + 1) c7)
          rw [flatI_append]
          exact h
        clear HE1 HE2 HE3 x0 y0 c0 c1 c2 lb2
        go_wp2
        exact ⟨⟨k + 1, S2, bd2, M ++ [((n1' : Int), (n2 : Int))], a7, c7, by go_num, by omega, HZ2.out, ⟨by rw [List.length_append, HI.out.1]; rfl, fun x hx => by
          rw [List.mem_append, List.mem_singleton] at hx
          rcases hx with hx | rfl
          · exact HI.out.2.1 x hx
          · have := HL1.out
            exact ⟨⟨by show -9223372036854775808 ≤ (n1' : Int); omega, by show (n1' : Int) ≤ 9223372036854775807; omega⟩, ⟨by show -9223372036854775808 ≤ (n2 : Int); omega, by show (n2 : Int) ≤ 9223372036854775807; omega⟩⟩, HJ.out⟩, HF⟩, by simp [intOf]; omega⟩
    · obtain rfl : k = m := by omega
      have hltI : ¬ (k : Int) < k := by omega
      have c0 := (HR.out.at 2 rfl (j := 0) rfl).1
      have c1 := (HR.out.at 2 rfl (j := 1) rfl).1
      have c2 := (HR.out.at 2 rfl (j := 2) rfl).1
      have d0 := (HR.out.at 1 rfl (j := 0) rfl).1
      have d1 := (HR.out.at 1 rfl (j := 1) rfl).1
      have d2 := (HR.out.at 1 rfl (j := 2) rfl).1
      have e0 := (HR.out.at 1 rfl (j := 0) rfl).2
      have e1 := (HR.out.at 1 rfl (j := 1) rfl).2
      have e2 := (HR.out.at 1 rfl (j := 2) rfl).2
      have C4 := (((HR.out.set 1 rfl 0 (.string nm)).set 1 rfl 1 (.int .i64 (z : Int))).set 1 rfl 2 (.slice a k c))
      obtain ⟨O, ⟨hblk, _⟩, _⟩ := C4.one (i := 1) rfl
      have HBLK := Lib.hid hblk
      have HFR := Lib.hid (C4.pick [0, 3] (by decide) rfl)
      clear C4 hblk
      have HZ : Hid (S.size ≤ s.size) := by unfold Hid; omega
      go_wp2
      refine bodyPost_ret (results_cell_row rfl _ _ w.heap.size 40 _ (0, 0) _ rfl HBLK.out Tryz.underlying40 rfl (by kernel_rfl)) rfl ?_
      refine ⟨⟨nm, (z : Int), M⟩, a, c, S, bd, ?_, ⟨HZ.out, ⟨by show nm.size ≤ _; omega, ⟨by show -9223372036854775808 ≤ (z : Int); omega, by show (z : Int) ≤ 9223372036854775807; omega⟩, HI.out.2.1⟩, gn, by show M.length ≤ 255; rw [HI.out.1]; omega, fun g y hw hbd hst => ?_⟩, ?_⟩
      · show _ = Ending.returned (.agg #[.string nm, .int .i64 (z : Int), .slice a M.length c])
        rw [HI.out.1]
        exact rfl
      · obtain ⟨k1, k2, k3, k4, k5⟩ := HKEY.out g y hw hbd hst
        obtain ⟨e1, e2, e3⟩ := HI.out.2.2 g y hw hbd hst
        refine ⟨?_, ?_, e2⟩
        · rw [k1, k2, e3, k3, List.take_of_length_le (Nat.le_refl _)]
        · rw [e1, k3, List.drop_of_length_le (Nat.le_refl _)]
          rfl
      · show Crew _ _ [_, rowT 0 38 2 (.slice a M.length c) M.length (flatI M)] _
        rw [HI.out.1]
        exact HFR.out

end Go.Proofs.YteellffkjjllgaaGreat
