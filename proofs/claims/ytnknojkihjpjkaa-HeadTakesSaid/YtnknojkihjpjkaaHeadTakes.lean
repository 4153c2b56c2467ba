/-
  HeadTakes: for every input the law answers true: the head of a sector, or what is wrong, and which of two counts, are as the document says. Conditions: none.
-/
import Derived.Test.YtnknojkihjpjkaaHdIn
namespace Go.Proofs.Ytnknojkihjpjkaa.headTakes
open Go.ChangeShapes Go.WideShapes Go.ChangeAt Go.RowKit Go.Rc5 Go.Rc6
open Go.ChangeMaps (open_string shut_string)

set_option maxRecDepth 100000 in
set_option maxHeartbeats 4000000 in
theorem long (s t : ByteArray) (w : World) (h : 300 < s.size ∨ (s.size ≤ 300 ∧ 300 < t.size)) :
    Calls Try.prog 4 #[.string s, .string t] w fun e w' => e = .returned (.bool true) ∧ Below w.heap.size w w' := by
  rcases h with h | ⟨h1, h2⟩
  · have hl' : (300 : Int) < s.size := by omega
    clear h
    go_enter Try.func4, Try.ntmps4
    go_wp2_with fail
    refine (shown_any _).mono ?_
    rintro e w1 ⟨rfl, hb1⟩
    go_wp2_with fail
    go_ret
    exact ⟨rfl, hb1⟩
  · have hl' : ¬ (300 : Int) < s.size := by omega
    have hl2 : (300 : Int) < t.size := by omega
    clear h1 h2
    go_enter Try.func4, Try.ntmps4
    go_wp2_with fail
    refine (shown_any _).mono ?_
    rintro e w1 ⟨rfl, hb1⟩
    go_wp2_with fail
    go_ret
    exact ⟨rfl, hb1⟩

theorem took_few (s : ByteArray) : (took s).spans.length ≤ 8 := by
  by_cases hx : ∃ h : Hd, h.Ok ∧ hdB h = s
  · obtain ⟨h, k, rfl⟩ := hx
    rw [took_yes k]
    exact k.few
  · rw [took_no hx]
    exact Nat.zero_le _

theorem choice_few (x y : Took) (hx : x.spans.length ≤ 8) (hy : y.spans.length ≤ 8) : (choice x y).1.spans.length ≤ 8 := by
  unfold choice
  split
  · exact Nat.zero_le _
  · split
    · exact hy
    · exact hx

/-- What is tried for a text: it, or, of sixty bytes, it sealed. -/
def Tried (s S : ByteArray) : Prop := (s.size = 60 ∧ sealedB s = S) ∨ (s.size ≠ 60 ∧ s = S)

set_option maxRecDepth 100000 in
set_option maxHeartbeats 16000000 in
theorem short (s t S T : ByteArray) (w : World) (hs : s.size ≤ 300) (ht : t.size ≤ 300) (hS : Tried s S) (hT : Tried t T) :
    Calls Try.prog 4 #[.string s, .string t] w fun e w' => e = .returned (.bool true) ∧ Below w.heap.size w w' := by
  have hl1 : ¬ (300 : Int) < s.size := by omega
  have hl2 : ¬ (300 : Int) < t.size := by omega
  have HX := Lib.hid (Take_all S)
  have HXR := Lib.hid (TakeH_all S)
  have HC := Lib.hid (Choose_all S T)
  have HCR := Lib.hid (ChooseR_all S T)
  unfold ChoseAt at HC HCR
  have hfx := took_few S
  have hfc := choice_few (took S) (took T) (took_few S) (took_few T)
  generalize took S = x at *
  generalize took T = y at *
  generalize choice x y = ch at *
  obtain ⟨y', i, f⟩ := ch
  dsimp only at HC HCR hfc
  obtain ⟨m, hm⟩ : ∃ m, (castS x.spans).length = m := ⟨_, rfl⟩
  obtain ⟨n, hn⟩ : ∃ m, (castS y'.spans).length = m := ⟨_, rfl⟩
  have HM : Hid ((castS x.spans).length = m ∧ m ≤ 1000000) := ⟨hm, by rw [← hm, castS_length]; omega⟩
  have HN : Hid ((castS y'.spans).length = n ∧ n ≤ 1000000) := ⟨hn, by rw [← hn, castS_length]; omega⟩
  have q1 : (x.err == x.err) = true := by simp
  have q2 : (i == i) = true := by simp
  have q3 : (f == f) = true := by simp
  have HPS := Lib.hid (PutR_seal s (by unfold maxLen; omega))
  have HPT := Lib.hid (PutR_seal t (by unfold maxLen; omega))
  clear hs ht hfx hfc
  rcases hS with ⟨h1, hS⟩ | ⟨h1, rfl⟩ <;> rcases hT with ⟨h2, hT⟩ | ⟨h2, rfl⟩
  · have k1 : (s.size : Int) = 60 := by omega
    rw [hS] at HPS
    clear h1 hS
    have k2 : (t.size : Int) = 60 := by omega
    rw [hT] at HPT
    clear h2 hT
    go_enter Try.func4, Try.ntmps4
    go_wp2_with fail
    refine (shown_any _).mono ?_
    rintro e w1 ⟨rfl, hb1⟩
    have HB := Lib.hid hb1
    clear hb1
    go_wp2_with fail
    refine (HPS.out _).mono ?_
    rintro e wa ⟨rfl, hba⟩
    replace HB := Lib.hid (below_trans HB.out hba)
    clear hba
    go_wp2_with fail
    refine (HPT.out _).mono ?_
    rintro e wb ⟨rfl, hbb⟩
    replace HB := Lib.hid (below_trans HB.out hbb)
    clear hbb
    go_wp2_with fail
    refine (HX.out _).mono ?_
    rintro e w2 ⟨v2, rfl, hf2⟩
    obtain ⟨a2, d2, hv2, hs2, hb2⟩ := row_of2 hf2
    rw [hm] at hv2
    subst hv2
    replace HB := Lib.hid (ba (below_trans HB.out hb2) (.cells #[.int .u64 (x.gen : Int), .int .i64 (x.sectors : Int), .int .i64 (x.size : Int), .slice a2 m d2] 25))
    have HS2 := Lib.hid (SpansAt.below hs2 ((Below.refl _ w2).alloc (Nat.le_refl _) (.cells #[.int .u64 (x.gen : Int), .int .i64 (x.sectors : Int), .int .i64 (x.size : Int), .slice a2 m d2] 25)))
    have HW := Lib.hid ((Crew.start w2).block #[.int .u64 (x.gen : Int), .int .i64 (x.sectors : Int), .int .i64 (x.size : Int), .slice a2 m d2] 25)
    clear hf2 hs2 hb2
    go_wp2_with fail
    refine (HXR.out _).mono ?_
    rintro e w3 ⟨v3, rfl, hf3⟩
    obtain ⟨a3, d3, hv3, hs3, hb3⟩ := row_of2 hf3
    rw [hm] at hv3
    subst hv3
    replace HB := Lib.hid (ba (below_trans HB.out hb3) (.cells #[.int .u64 (x.gen : Int), .int .i64 (x.sectors : Int), .int .i64 (x.size : Int), .slice a3 m d3] 31))
    have HS3 := Lib.hid (SpansAt.below hs3 ((Below.refl _ w3).alloc (Nat.le_refl _) (.cells #[.int .u64 (x.gen : Int), .int .i64 (x.sectors : Int), .int .i64 (x.size : Int), .slice a3 m d3] 31)))
    replace HS2 := Lib.hid (SpansAt.below (SpansAt.below HS2.out hb3) ((Below.refl _ w3).alloc (Nat.le_refl _) (.cells #[.int .u64 (x.gen : Int), .int .i64 (x.sectors : Int), .int .i64 (x.size : Int), .slice a3 m d3] 31)))
    replace HW := Lib.hid ((HW.out.below hb3).block #[.int .u64 (x.gen : Int), .int .i64 (x.sectors : Int), .int .i64 (x.size : Int), .slice a3 m d3] 31)
    clear hf3 hs3 hb3
    go_wp2_with fail
    refine (HC.out _).mono ?_
    rintro e w4 ⟨v4, rfl, hf4⟩
    obtain ⟨a4, d4, hv4, hs4, hb4⟩ := row_of2 hf4
    rw [hn] at hv4
    subst hv4
    replace HB := Lib.hid (ba (below_trans HB.out hb4) (.cells #[.int .u64 (y'.gen : Int), .int .i64 (y'.sectors : Int), .int .i64 (y'.size : Int), .slice a4 n d4] 25))
    have HS4 := Lib.hid (SpansAt.below hs4 ((Below.refl _ w4).alloc (Nat.le_refl _) (.cells #[.int .u64 (y'.gen : Int), .int .i64 (y'.sectors : Int), .int .i64 (y'.size : Int), .slice a4 n d4] 25)))
    replace HS2 := Lib.hid (SpansAt.below (SpansAt.below HS2.out hb4) ((Below.refl _ w4).alloc (Nat.le_refl _) (.cells #[.int .u64 (y'.gen : Int), .int .i64 (y'.sectors : Int), .int .i64 (y'.size : Int), .slice a4 n d4] 25)))
    replace HS3 := Lib.hid (SpansAt.below (SpansAt.below HS3.out hb4) ((Below.refl _ w4).alloc (Nat.le_refl _) (.cells #[.int .u64 (y'.gen : Int), .int .i64 (y'.sectors : Int), .int .i64 (y'.size : Int), .slice a4 n d4] 25)))
    replace HW := Lib.hid ((HW.out.below hb4).block #[.int .u64 (y'.gen : Int), .int .i64 (y'.sectors : Int), .int .i64 (y'.size : Int), .slice a4 n d4] 25)
    clear hf4 hs4 hb4
    go_wp2_with fail
    refine (HCR.out _).mono ?_
    rintro e w5 ⟨v5, rfl, hf5⟩
    obtain ⟨a5, d5, hv5, hs5, hb5⟩ := row_of2 hf5
    rw [hn] at hv5
    subst hv5
    replace HB := Lib.hid (ba (below_trans HB.out hb5) (.cells #[.int .u64 (y'.gen : Int), .int .i64 (y'.sectors : Int), .int .i64 (y'.size : Int), .slice a5 n d5] 31))
    have HS5 := Lib.hid (SpansAt.below hs5 ((Below.refl _ w5).alloc (Nat.le_refl _) (.cells #[.int .u64 (y'.gen : Int), .int .i64 (y'.sectors : Int), .int .i64 (y'.size : Int), .slice a5 n d5] 31)))
    replace HS2 := Lib.hid (SpansAt.below (SpansAt.below HS2.out hb5) ((Below.refl _ w5).alloc (Nat.le_refl _) (.cells #[.int .u64 (y'.gen : Int), .int .i64 (y'.sectors : Int), .int .i64 (y'.size : Int), .slice a5 n d5] 31)))
    replace HS3 := Lib.hid (SpansAt.below (SpansAt.below HS3.out hb5) ((Below.refl _ w5).alloc (Nat.le_refl _) (.cells #[.int .u64 (y'.gen : Int), .int .i64 (y'.sectors : Int), .int .i64 (y'.size : Int), .slice a5 n d5] 31)))
    replace HS4 := Lib.hid (SpansAt.below (SpansAt.below HS4.out hb5) ((Below.refl _ w5).alloc (Nat.le_refl _) (.cells #[.int .u64 (y'.gen : Int), .int .i64 (y'.sectors : Int), .int .i64 (y'.size : Int), .slice a5 n d5] 31)))
    replace HW := Lib.hid ((HW.out.below hb5).block #[.int .u64 (y'.gen : Int), .int .i64 (y'.sectors : Int), .int .i64 (y'.size : Int), .slice a5 n d5] 31)
    clear hf5 hs5 hb5
    clear HX HXR HC HCR HPS HPT hm hn
    have c00 := (HW.out.at 0 rfl (j := 0) rfl).1
    have c01 := (HW.out.at 0 rfl (j := 1) rfl).1
    have c02 := (HW.out.at 0 rfl (j := 2) rfl).1
    have c03 := (HW.out.at 0 rfl (j := 3) rfl).1
    have c10 := (HW.out.at 1 rfl (j := 0) rfl).1
    have c11 := (HW.out.at 1 rfl (j := 1) rfl).1
    have c12 := (HW.out.at 1 rfl (j := 2) rfl).1
    have c13 := (HW.out.at 1 rfl (j := 3) rfl).1
    go_wp2_with fail
    have C := sameH_any x.gen x.gen x.sectors x.sectors x.size x.size (castS x.spans) (castS x.spans) a2 a3 m m d2 d3 _ HS2.out HS3.out HM.out.1 HM.out.1 HM.out.2
    rw [decide_eq_true ⟨rfl, rfl, rfl, rfl⟩] at C
    refine C.mono ?_
    clear C
    rintro e w6 ⟨rfl, hb6⟩
    replace HB := Lib.hid (below_trans HB.out hb6)
    replace HS4 := Lib.hid (SpansAt.below HS4.out hb6)
    replace HS5 := Lib.hid (SpansAt.below HS5.out hb6)
    replace HW := Lib.hid (HW.out.below hb6)
    clear hb6 HS2 HS3
    clear c00 c01 c02 c03 c10 c11 c12 c13
    have c20 := (HW.out.at 2 rfl (j := 0) rfl).1
    have c21 := (HW.out.at 2 rfl (j := 1) rfl).1
    have c22 := (HW.out.at 2 rfl (j := 2) rfl).1
    have c23 := (HW.out.at 2 rfl (j := 3) rfl).1
    have c30 := (HW.out.at 3 rfl (j := 0) rfl).1
    have c31 := (HW.out.at 3 rfl (j := 1) rfl).1
    have c32 := (HW.out.at 3 rfl (j := 2) rfl).1
    have c33 := (HW.out.at 3 rfl (j := 3) rfl).1
    go_wp2_with fail
    have C := sameH_any y'.gen y'.gen y'.sectors y'.sectors y'.size y'.size (castS y'.spans) (castS y'.spans) a4 a5 n n d4 d5 _ HS4.out HS5.out HN.out.1 HN.out.1 HN.out.2
    rw [decide_eq_true ⟨rfl, rfl, rfl, rfl⟩] at C
    refine C.mono ?_
    clear C
    rintro e w7 ⟨rfl, hb7⟩
    replace HB := Lib.hid (below_trans HB.out hb7)
    clear hb7
    go_wp2
    go_ret
    exact ⟨rfl, HB.out⟩
  · have k1 : (s.size : Int) = 60 := by omega
    rw [hS] at HPS
    clear h1 hS
    have k2 : ¬ (t.size : Int) = 60 := by omega
    have k4 : ((t.size : Int) == 60) = false := by simpa using k2
    clear h2
    go_enter Try.func4, Try.ntmps4
    go_wp2_with fail
    refine (shown_any _).mono ?_
    rintro e w1 ⟨rfl, hb1⟩
    have HB := Lib.hid hb1
    clear hb1
    go_wp2_with fail
    refine (HPS.out _).mono ?_
    rintro e wa ⟨rfl, hba⟩
    replace HB := Lib.hid (below_trans HB.out hba)
    clear hba
    go_wp2_with fail
    refine (HX.out _).mono ?_
    rintro e w2 ⟨v2, rfl, hf2⟩
    obtain ⟨a2, d2, hv2, hs2, hb2⟩ := row_of2 hf2
    rw [hm] at hv2
    subst hv2
    replace HB := Lib.hid (ba (below_trans HB.out hb2) (.cells #[.int .u64 (x.gen : Int), .int .i64 (x.sectors : Int), .int .i64 (x.size : Int), .slice a2 m d2] 25))
    have HS2 := Lib.hid (SpansAt.below hs2 ((Below.refl _ w2).alloc (Nat.le_refl _) (.cells #[.int .u64 (x.gen : Int), .int .i64 (x.sectors : Int), .int .i64 (x.size : Int), .slice a2 m d2] 25)))
    have HW := Lib.hid ((Crew.start w2).block #[.int .u64 (x.gen : Int), .int .i64 (x.sectors : Int), .int .i64 (x.size : Int), .slice a2 m d2] 25)
    clear hf2 hs2 hb2
    go_wp2_with fail
    refine (HXR.out _).mono ?_
    rintro e w3 ⟨v3, rfl, hf3⟩
    obtain ⟨a3, d3, hv3, hs3, hb3⟩ := row_of2 hf3
    rw [hm] at hv3
    subst hv3
    replace HB := Lib.hid (ba (below_trans HB.out hb3) (.cells #[.int .u64 (x.gen : Int), .int .i64 (x.sectors : Int), .int .i64 (x.size : Int), .slice a3 m d3] 31))
    have HS3 := Lib.hid (SpansAt.below hs3 ((Below.refl _ w3).alloc (Nat.le_refl _) (.cells #[.int .u64 (x.gen : Int), .int .i64 (x.sectors : Int), .int .i64 (x.size : Int), .slice a3 m d3] 31)))
    replace HS2 := Lib.hid (SpansAt.below (SpansAt.below HS2.out hb3) ((Below.refl _ w3).alloc (Nat.le_refl _) (.cells #[.int .u64 (x.gen : Int), .int .i64 (x.sectors : Int), .int .i64 (x.size : Int), .slice a3 m d3] 31)))
    replace HW := Lib.hid ((HW.out.below hb3).block #[.int .u64 (x.gen : Int), .int .i64 (x.sectors : Int), .int .i64 (x.size : Int), .slice a3 m d3] 31)
    clear hf3 hs3 hb3
    go_wp2_with fail
    refine (HC.out _).mono ?_
    rintro e w4 ⟨v4, rfl, hf4⟩
    obtain ⟨a4, d4, hv4, hs4, hb4⟩ := row_of2 hf4
    rw [hn] at hv4
    subst hv4
    replace HB := Lib.hid (ba (below_trans HB.out hb4) (.cells #[.int .u64 (y'.gen : Int), .int .i64 (y'.sectors : Int), .int .i64 (y'.size : Int), .slice a4 n d4] 25))
    have HS4 := Lib.hid (SpansAt.below hs4 ((Below.refl _ w4).alloc (Nat.le_refl _) (.cells #[.int .u64 (y'.gen : Int), .int .i64 (y'.sectors : Int), .int .i64 (y'.size : Int), .slice a4 n d4] 25)))
    replace HS2 := Lib.hid (SpansAt.below (SpansAt.below HS2.out hb4) ((Below.refl _ w4).alloc (Nat.le_refl _) (.cells #[.int .u64 (y'.gen : Int), .int .i64 (y'.sectors : Int), .int .i64 (y'.size : Int), .slice a4 n d4] 25)))
    replace HS3 := Lib.hid (SpansAt.below (SpansAt.below HS3.out hb4) ((Below.refl _ w4).alloc (Nat.le_refl _) (.cells #[.int .u64 (y'.gen : Int), .int .i64 (y'.sectors : Int), .int .i64 (y'.size : Int), .slice a4 n d4] 25)))
    replace HW := Lib.hid ((HW.out.below hb4).block #[.int .u64 (y'.gen : Int), .int .i64 (y'.sectors : Int), .int .i64 (y'.size : Int), .slice a4 n d4] 25)
    clear hf4 hs4 hb4
    go_wp2_with fail
    refine (HCR.out _).mono ?_
    rintro e w5 ⟨v5, rfl, hf5⟩
    obtain ⟨a5, d5, hv5, hs5, hb5⟩ := row_of2 hf5
    rw [hn] at hv5
    subst hv5
    replace HB := Lib.hid (ba (below_trans HB.out hb5) (.cells #[.int .u64 (y'.gen : Int), .int .i64 (y'.sectors : Int), .int .i64 (y'.size : Int), .slice a5 n d5] 31))
    have HS5 := Lib.hid (SpansAt.below hs5 ((Below.refl _ w5).alloc (Nat.le_refl _) (.cells #[.int .u64 (y'.gen : Int), .int .i64 (y'.sectors : Int), .int .i64 (y'.size : Int), .slice a5 n d5] 31)))
    replace HS2 := Lib.hid (SpansAt.below (SpansAt.below HS2.out hb5) ((Below.refl _ w5).alloc (Nat.le_refl _) (.cells #[.int .u64 (y'.gen : Int), .int .i64 (y'.sectors : Int), .int .i64 (y'.size : Int), .slice a5 n d5] 31)))
    replace HS3 := Lib.hid (SpansAt.below (SpansAt.below HS3.out hb5) ((Below.refl _ w5).alloc (Nat.le_refl _) (.cells #[.int .u64 (y'.gen : Int), .int .i64 (y'.sectors : Int), .int .i64 (y'.size : Int), .slice a5 n d5] 31)))
    replace HS4 := Lib.hid (SpansAt.below (SpansAt.below HS4.out hb5) ((Below.refl _ w5).alloc (Nat.le_refl _) (.cells #[.int .u64 (y'.gen : Int), .int .i64 (y'.sectors : Int), .int .i64 (y'.size : Int), .slice a5 n d5] 31)))
    replace HW := Lib.hid ((HW.out.below hb5).block #[.int .u64 (y'.gen : Int), .int .i64 (y'.sectors : Int), .int .i64 (y'.size : Int), .slice a5 n d5] 31)
    clear hf5 hs5 hb5
    clear HX HXR HC HCR HPS HPT hm hn
    have c00 := (HW.out.at 0 rfl (j := 0) rfl).1
    have c01 := (HW.out.at 0 rfl (j := 1) rfl).1
    have c02 := (HW.out.at 0 rfl (j := 2) rfl).1
    have c03 := (HW.out.at 0 rfl (j := 3) rfl).1
    have c10 := (HW.out.at 1 rfl (j := 0) rfl).1
    have c11 := (HW.out.at 1 rfl (j := 1) rfl).1
    have c12 := (HW.out.at 1 rfl (j := 2) rfl).1
    have c13 := (HW.out.at 1 rfl (j := 3) rfl).1
    go_wp2_with fail
    have C := sameH_any x.gen x.gen x.sectors x.sectors x.size x.size (castS x.spans) (castS x.spans) a2 a3 m m d2 d3 _ HS2.out HS3.out HM.out.1 HM.out.1 HM.out.2
    rw [decide_eq_true ⟨rfl, rfl, rfl, rfl⟩] at C
    refine C.mono ?_
    clear C
    rintro e w6 ⟨rfl, hb6⟩
    replace HB := Lib.hid (below_trans HB.out hb6)
    replace HS4 := Lib.hid (SpansAt.below HS4.out hb6)
    replace HS5 := Lib.hid (SpansAt.below HS5.out hb6)
    replace HW := Lib.hid (HW.out.below hb6)
    clear hb6 HS2 HS3
    clear c00 c01 c02 c03 c10 c11 c12 c13
    have c20 := (HW.out.at 2 rfl (j := 0) rfl).1
    have c21 := (HW.out.at 2 rfl (j := 1) rfl).1
    have c22 := (HW.out.at 2 rfl (j := 2) rfl).1
    have c23 := (HW.out.at 2 rfl (j := 3) rfl).1
    have c30 := (HW.out.at 3 rfl (j := 0) rfl).1
    have c31 := (HW.out.at 3 rfl (j := 1) rfl).1
    have c32 := (HW.out.at 3 rfl (j := 2) rfl).1
    have c33 := (HW.out.at 3 rfl (j := 3) rfl).1
    go_wp2_with fail
    have C := sameH_any y'.gen y'.gen y'.sectors y'.sectors y'.size y'.size (castS y'.spans) (castS y'.spans) a4 a5 n n d4 d5 _ HS4.out HS5.out HN.out.1 HN.out.1 HN.out.2
    rw [decide_eq_true ⟨rfl, rfl, rfl, rfl⟩] at C
    refine C.mono ?_
    clear C
    rintro e w7 ⟨rfl, hb7⟩
    replace HB := Lib.hid (below_trans HB.out hb7)
    clear hb7
    go_wp2
    go_ret
    exact ⟨rfl, HB.out⟩
  · have k1 : ¬ (s.size : Int) = 60 := by omega
    have k3 : ((s.size : Int) == 60) = false := by simpa using k1
    clear h1
    have k2 : (t.size : Int) = 60 := by omega
    rw [hT] at HPT
    clear h2 hT
    go_enter Try.func4, Try.ntmps4
    go_wp2_with fail
    refine (shown_any _).mono ?_
    rintro e w1 ⟨rfl, hb1⟩
    have HB := Lib.hid hb1
    clear hb1
    go_wp2_with fail
    refine (HPT.out _).mono ?_
    rintro e wb ⟨rfl, hbb⟩
    replace HB := Lib.hid (below_trans HB.out hbb)
    clear hbb
    go_wp2_with fail
    refine (HX.out _).mono ?_
    rintro e w2 ⟨v2, rfl, hf2⟩
    obtain ⟨a2, d2, hv2, hs2, hb2⟩ := row_of2 hf2
    rw [hm] at hv2
    subst hv2
    replace HB := Lib.hid (ba (below_trans HB.out hb2) (.cells #[.int .u64 (x.gen : Int), .int .i64 (x.sectors : Int), .int .i64 (x.size : Int), .slice a2 m d2] 25))
    have HS2 := Lib.hid (SpansAt.below hs2 ((Below.refl _ w2).alloc (Nat.le_refl _) (.cells #[.int .u64 (x.gen : Int), .int .i64 (x.sectors : Int), .int .i64 (x.size : Int), .slice a2 m d2] 25)))
    have HW := Lib.hid ((Crew.start w2).block #[.int .u64 (x.gen : Int), .int .i64 (x.sectors : Int), .int .i64 (x.size : Int), .slice a2 m d2] 25)
    clear hf2 hs2 hb2
    go_wp2_with fail
    refine (HXR.out _).mono ?_
    rintro e w3 ⟨v3, rfl, hf3⟩
    obtain ⟨a3, d3, hv3, hs3, hb3⟩ := row_of2 hf3
    rw [hm] at hv3
    subst hv3
    replace HB := Lib.hid (ba (below_trans HB.out hb3) (.cells #[.int .u64 (x.gen : Int), .int .i64 (x.sectors : Int), .int .i64 (x.size : Int), .slice a3 m d3] 31))
    have HS3 := Lib.hid (SpansAt.below hs3 ((Below.refl _ w3).alloc (Nat.le_refl _) (.cells #[.int .u64 (x.gen : Int), .int .i64 (x.sectors : Int), .int .i64 (x.size : Int), .slice a3 m d3] 31)))
    replace HS2 := Lib.hid (SpansAt.below (SpansAt.below HS2.out hb3) ((Below.refl _ w3).alloc (Nat.le_refl _) (.cells #[.int .u64 (x.gen : Int), .int .i64 (x.sectors : Int), .int .i64 (x.size : Int), .slice a3 m d3] 31)))
    replace HW := Lib.hid ((HW.out.below hb3).block #[.int .u64 (x.gen : Int), .int .i64 (x.sectors : Int), .int .i64 (x.size : Int), .slice a3 m d3] 31)
    clear hf3 hs3 hb3
    go_wp2_with fail
    refine (HC.out _).mono ?_
    rintro e w4 ⟨v4, rfl, hf4⟩
    obtain ⟨a4, d4, hv4, hs4, hb4⟩ := row_of2 hf4
    rw [hn] at hv4
    subst hv4
    replace HB := Lib.hid (ba (below_trans HB.out hb4) (.cells #[.int .u64 (y'.gen : Int), .int .i64 (y'.sectors : Int), .int .i64 (y'.size : Int), .slice a4 n d4] 25))
    have HS4 := Lib.hid (SpansAt.below hs4 ((Below.refl _ w4).alloc (Nat.le_refl _) (.cells #[.int .u64 (y'.gen : Int), .int .i64 (y'.sectors : Int), .int .i64 (y'.size : Int), .slice a4 n d4] 25)))
    replace HS2 := Lib.hid (SpansAt.below (SpansAt.below HS2.out hb4) ((Below.refl _ w4).alloc (Nat.le_refl _) (.cells #[.int .u64 (y'.gen : Int), .int .i64 (y'.sectors : Int), .int .i64 (y'.size : Int), .slice a4 n d4] 25)))
    replace HS3 := Lib.hid (SpansAt.below (SpansAt.below HS3.out hb4) ((Below.refl _ w4).alloc (Nat.le_refl _) (.cells #[.int .u64 (y'.gen : Int), .int .i64 (y'.sectors : Int), .int .i64 (y'.size : Int), .slice a4 n d4] 25)))
    replace HW := Lib.hid ((HW.out.below hb4).block #[.int .u64 (y'.gen : Int), .int .i64 (y'.sectors : Int), .int .i64 (y'.size : Int), .slice a4 n d4] 25)
    clear hf4 hs4 hb4
    go_wp2_with fail
    refine (HCR.out _).mono ?_
    rintro e w5 ⟨v5, rfl, hf5⟩
    obtain ⟨a5, d5, hv5, hs5, hb5⟩ := row_of2 hf5
    rw [hn] at hv5
    subst hv5
    replace HB := Lib.hid (ba (below_trans HB.out hb5) (.cells #[.int .u64 (y'.gen : Int), .int .i64 (y'.sectors : Int), .int .i64 (y'.size : Int), .slice a5 n d5] 31))
    have HS5 := Lib.hid (SpansAt.below hs5 ((Below.refl _ w5).alloc (Nat.le_refl _) (.cells #[.int .u64 (y'.gen : Int), .int .i64 (y'.sectors : Int), .int .i64 (y'.size : Int), .slice a5 n d5] 31)))
    replace HS2 := Lib.hid (SpansAt.below (SpansAt.below HS2.out hb5) ((Below.refl _ w5).alloc (Nat.le_refl _) (.cells #[.int .u64 (y'.gen : Int), .int .i64 (y'.sectors : Int), .int .i64 (y'.size : Int), .slice a5 n d5] 31)))
    replace HS3 := Lib.hid (SpansAt.below (SpansAt.below HS3.out hb5) ((Below.refl _ w5).alloc (Nat.le_refl _) (.cells #[.int .u64 (y'.gen : Int), .int .i64 (y'.sectors : Int), .int .i64 (y'.size : Int), .slice a5 n d5] 31)))
    replace HS4 := Lib.hid (SpansAt.below (SpansAt.below HS4.out hb5) ((Below.refl _ w5).alloc (Nat.le_refl _) (.cells #[.int .u64 (y'.gen : Int), .int .i64 (y'.sectors : Int), .int .i64 (y'.size : Int), .slice a5 n d5] 31)))
    replace HW := Lib.hid ((HW.out.below hb5).block #[.int .u64 (y'.gen : Int), .int .i64 (y'.sectors : Int), .int .i64 (y'.size : Int), .slice a5 n d5] 31)
    clear hf5 hs5 hb5
    clear HX HXR HC HCR HPS HPT hm hn
    have c00 := (HW.out.at 0 rfl (j := 0) rfl).1
    have c01 := (HW.out.at 0 rfl (j := 1) rfl).1
    have c02 := (HW.out.at 0 rfl (j := 2) rfl).1
    have c03 := (HW.out.at 0 rfl (j := 3) rfl).1
    have c10 := (HW.out.at 1 rfl (j := 0) rfl).1
    have c11 := (HW.out.at 1 rfl (j := 1) rfl).1
    have c12 := (HW.out.at 1 rfl (j := 2) rfl).1
    have c13 := (HW.out.at 1 rfl (j := 3) rfl).1
    go_wp2_with fail
    have C := sameH_any x.gen x.gen x.sectors x.sectors x.size x.size (castS x.spans) (castS x.spans) a2 a3 m m d2 d3 _ HS2.out HS3.out HM.out.1 HM.out.1 HM.out.2
    rw [decide_eq_true ⟨rfl, rfl, rfl, rfl⟩] at C
    refine C.mono ?_
    clear C
    rintro e w6 ⟨rfl, hb6⟩
    replace HB := Lib.hid (below_trans HB.out hb6)
    replace HS4 := Lib.hid (SpansAt.below HS4.out hb6)
    replace HS5 := Lib.hid (SpansAt.below HS5.out hb6)
    replace HW := Lib.hid (HW.out.below hb6)
    clear hb6 HS2 HS3
    clear c00 c01 c02 c03 c10 c11 c12 c13
    have c20 := (HW.out.at 2 rfl (j := 0) rfl).1
    have c21 := (HW.out.at 2 rfl (j := 1) rfl).1
    have c22 := (HW.out.at 2 rfl (j := 2) rfl).1
    have c23 := (HW.out.at 2 rfl (j := 3) rfl).1
    have c30 := (HW.out.at 3 rfl (j := 0) rfl).1
    have c31 := (HW.out.at 3 rfl (j := 1) rfl).1
    have c32 := (HW.out.at 3 rfl (j := 2) rfl).1
    have c33 := (HW.out.at 3 rfl (j := 3) rfl).1
    go_wp2_with fail
    have C := sameH_any y'.gen y'.gen y'.sectors y'.sectors y'.size y'.size (castS y'.spans) (castS y'.spans) a4 a5 n n d4 d5 _ HS4.out HS5.out HN.out.1 HN.out.1 HN.out.2
    rw [decide_eq_true ⟨rfl, rfl, rfl, rfl⟩] at C
    refine C.mono ?_
    clear C
    rintro e w7 ⟨rfl, hb7⟩
    replace HB := Lib.hid (below_trans HB.out hb7)
    clear hb7
    go_wp2
    go_ret
    exact ⟨rfl, HB.out⟩
  · have k1 : ¬ (s.size : Int) = 60 := by omega
    have k3 : ((s.size : Int) == 60) = false := by simpa using k1
    clear h1
    have k2 : ¬ (t.size : Int) = 60 := by omega
    have k4 : ((t.size : Int) == 60) = false := by simpa using k2
    clear h2
    go_enter Try.func4, Try.ntmps4
    go_wp2_with fail
    refine (shown_any _).mono ?_
    rintro e w1 ⟨rfl, hb1⟩
    have HB := Lib.hid hb1
    clear hb1
    go_wp2_with fail
    refine (HX.out _).mono ?_
    rintro e w2 ⟨v2, rfl, hf2⟩
    obtain ⟨a2, d2, hv2, hs2, hb2⟩ := row_of2 hf2
    rw [hm] at hv2
    subst hv2
    replace HB := Lib.hid (ba (below_trans HB.out hb2) (.cells #[.int .u64 (x.gen : Int), .int .i64 (x.sectors : Int), .int .i64 (x.size : Int), .slice a2 m d2] 25))
    have HS2 := Lib.hid (SpansAt.below hs2 ((Below.refl _ w2).alloc (Nat.le_refl _) (.cells #[.int .u64 (x.gen : Int), .int .i64 (x.sectors : Int), .int .i64 (x.size : Int), .slice a2 m d2] 25)))
    have HW := Lib.hid ((Crew.start w2).block #[.int .u64 (x.gen : Int), .int .i64 (x.sectors : Int), .int .i64 (x.size : Int), .slice a2 m d2] 25)
    clear hf2 hs2 hb2
    go_wp2_with fail
    refine (HXR.out _).mono ?_
    rintro e w3 ⟨v3, rfl, hf3⟩
    obtain ⟨a3, d3, hv3, hs3, hb3⟩ := row_of2 hf3
    rw [hm] at hv3
    subst hv3
    replace HB := Lib.hid (ba (below_trans HB.out hb3) (.cells #[.int .u64 (x.gen : Int), .int .i64 (x.sectors : Int), .int .i64 (x.size : Int), .slice a3 m d3] 31))
    have HS3 := Lib.hid (SpansAt.below hs3 ((Below.refl _ w3).alloc (Nat.le_refl _) (.cells #[.int .u64 (x.gen : Int), .int .i64 (x.sectors : Int), .int .i64 (x.size : Int), .slice a3 m d3] 31)))
    replace HS2 := Lib.hid (SpansAt.below (SpansAt.below HS2.out hb3) ((Below.refl _ w3).alloc (Nat.le_refl _) (.cells #[.int .u64 (x.gen : Int), .int .i64 (x.sectors : Int), .int .i64 (x.size : Int), .slice a3 m d3] 31)))
    replace HW := Lib.hid ((HW.out.below hb3).block #[.int .u64 (x.gen : Int), .int .i64 (x.sectors : Int), .int .i64 (x.size : Int), .slice a3 m d3] 31)
    clear hf3 hs3 hb3
    go_wp2_with fail
    refine (HC.out _).mono ?_
    rintro e w4 ⟨v4, rfl, hf4⟩
    obtain ⟨a4, d4, hv4, hs4, hb4⟩ := row_of2 hf4
    rw [hn] at hv4
    subst hv4
    replace HB := Lib.hid (ba (below_trans HB.out hb4) (.cells #[.int .u64 (y'.gen : Int), .int .i64 (y'.sectors : Int), .int .i64 (y'.size : Int), .slice a4 n d4] 25))
    have HS4 := Lib.hid (SpansAt.below hs4 ((Below.refl _ w4).alloc (Nat.le_refl _) (.cells #[.int .u64 (y'.gen : Int), .int .i64 (y'.sectors : Int), .int .i64 (y'.size : Int), .slice a4 n d4] 25)))
    replace HS2 := Lib.hid (SpansAt.below (SpansAt.below HS2.out hb4) ((Below.refl _ w4).alloc (Nat.le_refl _) (.cells #[.int .u64 (y'.gen : Int), .int .i64 (y'.sectors : Int), .int .i64 (y'.size : Int), .slice a4 n d4] 25)))
    replace HS3 := Lib.hid (SpansAt.below (SpansAt.below HS3.out hb4) ((Below.refl _ w4).alloc (Nat.le_refl _) (.cells #[.int .u64 (y'.gen : Int), .int .i64 (y'.sectors : Int), .int .i64 (y'.size : Int), .slice a4 n d4] 25)))
    replace HW := Lib.hid ((HW.out.below hb4).block #[.int .u64 (y'.gen : Int), .int .i64 (y'.sectors : Int), .int .i64 (y'.size : Int), .slice a4 n d4] 25)
    clear hf4 hs4 hb4
    go_wp2_with fail
    refine (HCR.out _).mono ?_
    rintro e w5 ⟨v5, rfl, hf5⟩
    obtain ⟨a5, d5, hv5, hs5, hb5⟩ := row_of2 hf5
    rw [hn] at hv5
    subst hv5
    replace HB := Lib.hid (ba (below_trans HB.out hb5) (.cells #[.int .u64 (y'.gen : Int), .int .i64 (y'.sectors : Int), .int .i64 (y'.size : Int), .slice a5 n d5] 31))
    have HS5 := Lib.hid (SpansAt.below hs5 ((Below.refl _ w5).alloc (Nat.le_refl _) (.cells #[.int .u64 (y'.gen : Int), .int .i64 (y'.sectors : Int), .int .i64 (y'.size : Int), .slice a5 n d5] 31)))
    replace HS2 := Lib.hid (SpansAt.below (SpansAt.below HS2.out hb5) ((Below.refl _ w5).alloc (Nat.le_refl _) (.cells #[.int .u64 (y'.gen : Int), .int .i64 (y'.sectors : Int), .int .i64 (y'.size : Int), .slice a5 n d5] 31)))
    replace HS3 := Lib.hid (SpansAt.below (SpansAt.below HS3.out hb5) ((Below.refl _ w5).alloc (Nat.le_refl _) (.cells #[.int .u64 (y'.gen : Int), .int .i64 (y'.sectors : Int), .int .i64 (y'.size : Int), .slice a5 n d5] 31)))
    replace HS4 := Lib.hid (SpansAt.below (SpansAt.below HS4.out hb5) ((Below.refl _ w5).alloc (Nat.le_refl _) (.cells #[.int .u64 (y'.gen : Int), .int .i64 (y'.sectors : Int), .int .i64 (y'.size : Int), .slice a5 n d5] 31)))
    replace HW := Lib.hid ((HW.out.below hb5).block #[.int .u64 (y'.gen : Int), .int .i64 (y'.sectors : Int), .int .i64 (y'.size : Int), .slice a5 n d5] 31)
    clear hf5 hs5 hb5
    clear HX HXR HC HCR HPS HPT hm hn
    have c00 := (HW.out.at 0 rfl (j := 0) rfl).1
    have c01 := (HW.out.at 0 rfl (j := 1) rfl).1
    have c02 := (HW.out.at 0 rfl (j := 2) rfl).1
    have c03 := (HW.out.at 0 rfl (j := 3) rfl).1
    have c10 := (HW.out.at 1 rfl (j := 0) rfl).1
    have c11 := (HW.out.at 1 rfl (j := 1) rfl).1
    have c12 := (HW.out.at 1 rfl (j := 2) rfl).1
    have c13 := (HW.out.at 1 rfl (j := 3) rfl).1
    go_wp2_with fail
    have C := sameH_any x.gen x.gen x.sectors x.sectors x.size x.size (castS x.spans) (castS x.spans) a2 a3 m m d2 d3 _ HS2.out HS3.out HM.out.1 HM.out.1 HM.out.2
    rw [decide_eq_true ⟨rfl, rfl, rfl, rfl⟩] at C
    refine C.mono ?_
    clear C
    rintro e w6 ⟨rfl, hb6⟩
    replace HB := Lib.hid (below_trans HB.out hb6)
    replace HS4 := Lib.hid (SpansAt.below HS4.out hb6)
    replace HS5 := Lib.hid (SpansAt.below HS5.out hb6)
    replace HW := Lib.hid (HW.out.below hb6)
    clear hb6 HS2 HS3
    clear c00 c01 c02 c03 c10 c11 c12 c13
    have c20 := (HW.out.at 2 rfl (j := 0) rfl).1
    have c21 := (HW.out.at 2 rfl (j := 1) rfl).1
    have c22 := (HW.out.at 2 rfl (j := 2) rfl).1
    have c23 := (HW.out.at 2 rfl (j := 3) rfl).1
    have c30 := (HW.out.at 3 rfl (j := 0) rfl).1
    have c31 := (HW.out.at 3 rfl (j := 1) rfl).1
    have c32 := (HW.out.at 3 rfl (j := 2) rfl).1
    have c33 := (HW.out.at 3 rfl (j := 3) rfl).1
    go_wp2_with fail
    have C := sameH_any y'.gen y'.gen y'.sectors y'.sectors y'.size y'.size (castS y'.spans) (castS y'.spans) a4 a5 n n d4 d5 _ HS4.out HS5.out HN.out.1 HN.out.1 HN.out.2
    rw [decide_eq_true ⟨rfl, rfl, rfl, rfl⟩] at C
    refine C.mono ?_
    clear C
    rintro e w7 ⟨rfl, hb7⟩
    replace HB := Lib.hid (below_trans HB.out hb7)
    clear hb7
    go_wp2
    go_ret
    exact ⟨rfl, HB.out⟩

theorem walk (s : ByteArray) (_ : s.size ≤ maxLen) (t : ByteArray) (_ : t.size ≤ maxLen) (w : World) :
    Calls Try.prog 4 #[.string s, .string t] w fun e w' => e = .returned (.bool true) ∧ Below w.heap.size w w' := by
  have tried : ∀ s : ByteArray, ∃ S, Tried s S := fun s => by
    by_cases h : s.size = 60
    · exact ⟨_, .inl ⟨h, rfl⟩⟩
    · exact ⟨_, .inr ⟨h, rfl⟩⟩
  by_cases h1 : s.size ≤ 300
  · by_cases h2 : t.size ≤ 300
    · obtain ⟨S, hS⟩ := tried s
      obtain ⟨T, hT⟩ := tried t
      exact short s t S T w h1 h2 hS hT
    · exact long s t w (.inr ⟨h1, by omega⟩)
  · exact long s t w (.inl (by omega))

set_option maxRecDepth 100000 in
theorem lifted (os : Os) (started : os.Started) (H : Type) (enc : TypeId × Value → H) :
    ReturnsInHanded {} Try.checked os 4 .any (Rows.headTakesSpec.pre6 enc Try.prog Try.f4 Rows.headTakesRow.domain false) (Rows.headTakesSpec.post enc Try.prog Try.f4 false true false false) := by
  refine returnsInHanded_of_change (C := Try.checked) own started (by kernel_rfl) Try.func4
    (ChangeSpec.witness6 (enc := enc) (C := Try.checked) false ⟨#[], #[.string ByteArray.empty, .string ByteArray.empty], []⟩ 8 (by kernel_rfl) (by kernel_rfl) (by kernel_rfl) (by kernel_rfl)) ?_
  intro W base args ds gs before hval0 hW _ _
  have hval : ∀ (j : Nat) t v, Try.f4.params[j]? = some t → args[j]? = some v → Value.okWide Try.prog W .any base t v := hval0
  have hW' := hW
  obtain ⟨p, q, hA0, hV, rfl, hfz, hnd⟩ := hW
  have hA : DataW.TrodAll enc Try.prog W 0 (fun _ => true) true Try.f4.params.toList args.toList ds p := hA0
  rw [Try.params4] at hA hval
  obtain ⟨v0, vs0, d0, ds0, p0, q0, hargs, rfl, rfl, h0, r0⟩ := trodAll_cons hA
  obtain ⟨v1, vs1, d1, ds1, p1, q1, rfl, rfl, rfl, h1, r1⟩ := trodAll_cons r0
  obtain ⟨rfl, rfl, rfl⟩ := trodAll_nil r1
  obtain rfl : args = #[v0, v1] := by cases args; simp_all
  obtain ⟨rfl, rfl⟩ := trodVars_none hV
  obtain ⟨a0, rfl, rfl, rfl, w0⟩ := open_string Try.underlying9 (hval 0 9 v0 rfl rfl) h0
  obtain ⟨a1, rfl, rfl, rfl, w1⟩ := open_string Try.underlying9 (hval 1 9 v1 rfl rfl) h1
  clear hA0 hval0
  simp only [List.append_nil] at hW'
  refine (walk a0 w0 a1 w1 W).mono fun e W' ⟨he, bel⟩ => ?_
  subst he
  exact ⟨_, rfl, _, _, _, [], _, [], hW', trodAll_mk1 (shut_bool Try.underlying4 _), (trodAll_cons_mk (shut_string Try.underlying9 w0) (trodAll_cons_mk (shut_string Try.underlying9 w1) trodAll_mk0)), rfl, bel.frame _, fun h => by cases h⟩

theorem holds : Rows.HeadTakesSaid :=
  OpenClaim.holds_of_wide 4 Try.f4 rfl rfl rfl rfl rfl rfl rfl ⟨rfl, rfl, rfl, rfl, rfl⟩ rfl rfl rfl rfl rfl (by kernel_rfl) Try.func4 (by kernel_rfl)
    (of_decide_eq_true (by kernel_rfl)) (by unfold Func.isWrapper; first | (rw [if_pos (by decide +kernel)]; kernel_rfl) | (rw [if_neg (by decide +kernel)]; exact ⟨rfl, rfl⟩))
    (fun os started H enc _ => lifted os started H enc)

end Go.Proofs.Ytnknojkihjpjkaa.headTakes
