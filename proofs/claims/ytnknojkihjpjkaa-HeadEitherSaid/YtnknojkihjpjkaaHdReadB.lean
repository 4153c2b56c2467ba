/-
  The head that the program reads off sixty bytes, be it one or not. Conditions: as each theorem states them.
-/
import Derived.Test.YtnknojkihjpjkaaHdRead
namespace Go.Rc6
open Go.Rc5

theorem readSpans_succ (t : List UInt8) (k : Nat) : castS (readSpans t (k + 1)) = castS (readSpans t k) ++ [((Rc2.say (cut t (19 + 4 * k) 2) : Int), (Rc2.say (cut t (21 + 4 * k) 2) : Int))] := by
  rw [readSpans, castS_append]
  rfl

theorem say_cut_lt (t : List UInt8) (p n : Nat) : Rc2.say (cut t p n) < 256 ^ n := by
  refine Nat.lt_of_lt_of_le (Rc2.say_lt _) (Nat.pow_le_pow_right (by decide) ?_)
  unfold cut
  rw [List.length_take]
  omega

theorem many_lt (t : List UInt8) : many t < 256 := by
  unfold many
  exact say_cut_lt t 18 1

end Go.Rc6
namespace Go.Proofs.Ytnknojkihjpjkaa
open Go.RowKit Go.Rc5 Go.Rc6

/-- What was read: the numbers, and a row of as many spans as the bytes say; where that is no more than eight, it is theirs. -/
def ReadAt (t : List UInt8) (w : World) (e : Ending) (w' : World) : Prop :=
  ∃ (v : Value) (M : List SpI), e = .returned (.agg #[.int .u64 (Rc2.say (cut t 4 8) : Nat), .int .i64 (Rc2.say (cut t 12 2) : Nat), .int .i64 (Rc2.say (cut t 14 4) : Nat), v]) ∧ Fresh (spT v M) w w' ∧ M.length = many t ∧ (∀ x ∈ M, In64 x.1) ∧ (many t ≤ 8 → M = castS (readSpans t (many t)))

set_option maxRecDepth 100000 in
set_option maxHeartbeats 16000000 in
theorem read_any (t : ByteArray) (ht : t.size = 60) (w : World) :
    Calls Try.prog 39 #[.string t] w (ReadAt t.data.toList w) := by
  have H0 : Hid (Crew (fun _ => False) w [blkT w.heap.size #[.int .u64 0, .int .i64 0, .int .i64 0, .slice none 0 0] 25, blkT (w.heap.size + 1) #[.string (rest t 0), .bool false] 88] ((w.alloc (.cells #[.int .u64 0, .int .i64 0, .int .i64 0, .slice none 0 0] 25)).alloc (.cells #[.string t, .bool false] 88))) := by
    rw [rest_zero]
    have := ((Crew.start w).block #[.int .u64 0, .int .i64 0, .int .i64 0, .slice none 0 0] 25).block #[.string t, .bool false] 88
    rw [World.size_alloc] at this
    exact this
  have HTZ := Lib.hid ht
  have b2 := say_cut_lt t.data.toList 12 2
  have b4 := say_cut_lt t.data.toList 14 4
  have u2 := wrap_u16 (n := Rc2.say (cut t.data.toList 12 2)) (by omega)
  have u4 := wrap_u32 (n := Rc2.say (cut t.data.toList 14 4)) (by omega)
  have HM := Lib.hid (many_lt t.data.toList)
  have HG := Lib.hid (show Rc2.say (cut t.data.toList 18 1) = many t.data.toList from rfl)
  have hT4 := Text_crew H0.out 1 rfl 4
  rw [show (4 : Int) = ((4 : Nat) : Int) from rfl, lft_rest (t := t) (p := 0) (n := 4) (by rw [ht]; decide), no_rest (t := t) (p := 0) (n := 4) (by rw [ht]; decide)] at hT4
  have HT4 := Lib.hid hT4
  clear b2 b4 ht hT4
  go_enter Try.func39, Try.ntmps39
  go_wp2_with fail
  refine HT4.out.mono ?_
  rintro e w3 ⟨rfl, h3⟩
  have HC := Lib.hid h3
  clear h3 HT4 H0
  go_wp2_with fail
  refine (Number_rest HC.out 1 rfl HTZ.out 8 8 rfl (by decide) (by decide)).mono ?_
  rintro e w4 ⟨rfl, h4⟩
  replace HC := Lib.hid h4
  clear h4
  go_wp2_with fail
  refine (Number_rest HC.out 1 rfl HTZ.out 2 2 rfl (by decide) (by decide)).mono ?_
  rintro e w5 ⟨rfl, h5⟩
  replace HC := Lib.hid h5
  clear h5
  go_wp2_with fail
  refine (Number_rest HC.out 1 rfl HTZ.out 4 4 rfl (by decide) (by decide)).mono ?_
  rintro e w6 ⟨rfl, h6⟩
  obtain ⟨g, hg⟩ : ∃ g, Rc2.say (cut t.data.toList 4 8) = g := ⟨_, rfl⟩
  obtain ⟨sec, hsec⟩ : ∃ g, Rc2.say (cut t.data.toList 12 2) = g := ⟨_, rfl⟩
  obtain ⟨z, hz⟩ : ∃ g, Rc2.say (cut t.data.toList 14 4) = g := ⟨_, rfl⟩
  rw [hg, hsec, hz]
  rw [hsec] at u2
  rw [hz] at u4
  have HV : Hid (Rc2.say (cut t.data.toList 4 8) = g ∧ Rc2.say (cut t.data.toList 12 2) = sec ∧ Rc2.say (cut t.data.toList 14 4) = z) := ⟨hg, hsec, hz⟩
  clear hg hsec hz
  replace HC := Lib.hid (h6.block #[.int .u64 (g : Int), .int .i64 (sec : Int), .int .i64 (z : Int), .slice none 0 0] 25)
  clear h6
  go_wp2_with fail
  refine (Number_rest HC.out 1 rfl HTZ.out 1 1 rfl (by decide) (by decide)).mono ?_
  rintro e w7 ⟨rfl, h7⟩
  obtain ⟨m, hm⟩ : ∃ m, many t.data.toList = m := ⟨_, rfl⟩
  rw [HG.out, hm]
  rw [hm] at HM
  have HMM := Lib.hid hm
  have h8 := h7.nil 53 2
  simp only [List.set_cons_succ, List.set_cons_zero, List.cons_append, List.nil_append] at h8
  replace HC := Lib.hid h8
  obtain ⟨hb, hhb⟩ : ∃ hb, w6.heap.size = hb := ⟨_, rfl⟩
  rw [hhb] at HC ⊢
  clear h7 h8 hm u2 u4 HG
  go_wp2_with fail
  go_loopw [15] (fun i wr => ∃ (k : Nat) (S : ByteArray) (bad : Bool) (M : List SpI) (a : Option Addr) (c : Nat), i = .int .u64 k ∧ k ≤ m ∧ S.size ≤ 60 ∧ Hid (M.length = k ∧ (∀ x ∈ M, In64 x.1) ∧ (m ≤ 8 → S = rest t (19 + 4 * k) ∧ bad = false ∧ M = castS (readSpans t.data.toList k))) ∧
    Hid (Crew (fun _ => False) w [blkT w.heap.size #[.int .u64 0, .int .i64 0, .int .i64 0, .slice none 0 0] 25, blkT (w.heap.size + 1) #[.string S, .bool bad] 88, blkT hb #[.int .u64 (g : Int), .int .i64 (sec : Int), .int .i64 (z : Int), .slice a k c] 25, rowT 0 53 2 (.slice a k c) k (flatI M)] wr)) (fun i _ => (m - intOf i).toNat)
  case atStart => exact ⟨0, rest t 19, false, [], none, 0, rfl, Nat.zero_le _, by rw [rest_size, HTZ.out]; omega, ⟨rfl, fun x hx => by (cases hx), fun _ => ⟨rfl, rfl, rfl⟩⟩, HC.out⟩
  case round =>
    obtain ⟨k, S, bad, M, a, c, rfl, hk, hS, HI, HR⟩ := hrel
    clear HC
    by_cases hlt : k < m
    · have hltI : (k : Int) < m := by omega
      obtain ⟨n1, hn1⟩ : ∃ n, num S bad 2 = n := ⟨_, rfl⟩
      obtain ⟨S1, hS1⟩ : ∃ T, lft S bad 2 = T := ⟨_, rfl⟩
      obtain ⟨bad1, hbad1⟩ : ∃ T, no S bad 2 = T := ⟨_, rfl⟩
      obtain ⟨n2, hn2⟩ : ∃ n, num S1 bad1 2 = n := ⟨_, rfl⟩
      obtain ⟨S2, hS2⟩ : ∃ T, lft S1 bad1 2 = T := ⟨_, rfl⟩
      obtain ⟨bad2, hbad2⟩ : ∃ T, no S1 bad1 2 = T := ⟨_, rfl⟩
      have z1 : S1.size ≤ 60 := by rw [← hS1]; exact lft_le _ _ _ hS
      have z2 : S2.size ≤ 60 := by rw [← hS2]; exact lft_le _ _ _ z1
      have l1 : n1 < 65536 := by rw [← hn1]; exact num_lt S bad 2
      have l2 : n2 < 65536 := by rw [← hn2]; exact num_lt S1 bad1 2
      have u1 := wrap_u16 l1
      have u2 := wrap_u16 l2
      have HC1 := Number_crew (HR.out.below ((Below.refl _ wr).drew)) 1 rfl hS 2 (by decide)
      rw [hn1, hS1, hbad1] at HC1
      have HD1 := Lib.hid HC1
      have HC2 : ∀ W, Crew (fun _ => False) w [blkT w.heap.size #[.int .u64 0, .int .i64 0, .int .i64 0, .slice none 0 0] 25, blkT (w.heap.size + 1) #[.string S1, .bool bad1] 88, blkT hb #[.int .u64 (g : Int), .int .i64 (sec : Int), .int .i64 (z : Int), .slice a k c] 25, rowT 0 53 2 (.slice a k c) k (flatI M)] W →
          Calls Try.prog 56 #[.pointer (some ⟨w.heap.size + 1, 0, none⟩), .int .i64 2] W fun e w' => e = .returned (.int .u64 (n2 : Nat)) ∧ Crew (fun _ => False) w [blkT w.heap.size #[.int .u64 0, .int .i64 0, .int .i64 0, .slice none 0 0] 25, blkT (w.heap.size + 1) #[.string S2, .bool bad2] 88, blkT hb #[.int .u64 (g : Int), .int .i64 (sec : Int), .int .i64 (z : Int), .slice a k c] 25, rowT 0 53 2 (.slice a k c) k (flatI M)] w' := fun W hW => by
        have := Number_crew hW 1 rfl z1 2 (by decide)
        rw [hn2, hS2, hbad2] at this
        exact this
      have HD2 := Lib.hid HC2
      have c0 := (HR.out.at 2 rfl (j := 3) rfl).1
      have HJ : Hid (m ≤ 8 → S2 = rest t (19 + 4 * (k + 1)) ∧ bad2 = false ∧ M ++ [((n1 : Int), (n2 : Int))] = castS (readSpans t.data.toList (k + 1))) := fun h8 => by
        obtain ⟨e1, e2, e3⟩ := HI.out.2.2 h8
        have ht := HTZ.out
        subst e1 e2
        have f1 : S1 = rest t (21 + 4 * k) := by
          rw [← hS1, show (2 : Int) = ((2 : Nat) : Int) from rfl, lft_rest (by omega), show 19 + 4 * k + 2 = 21 + 4 * k by omega]
        have f2 : bad1 = false := by rw [← hbad1, show (2 : Int) = ((2 : Nat) : Int) from rfl, no_rest (by omega)]
        subst f1 f2
        refine ⟨?_, ?_, ?_⟩
        · rw [← hS2, show (2 : Int) = ((2 : Nat) : Int) from rfl, lft_rest (by omega), show 21 + 4 * k + 2 = 19 + 4 * (k + 1) by omega]
        · rw [← hbad2, show (2 : Int) = ((2 : Nat) : Int) from rfl, no_rest (by omega)]
        · rw [readSpans_succ, e3, ← hn1, ← hn2, show (2 : Int) = ((2 : Nat) : Int) from rfl, num_rest (by omega) (by decide), num_rest (by omega) (by decide)]
      have HL1 := Lib.hid l1
      have HZ2 := Lib.hid z2
      have hm256 : m < 256 := HM.out
      clear HC1 HC2 hn1 hS1 hbad1 hn2 hS2 hbad2 z1 l1 l2
      go_wp2
      go_region_law
        (first
          | (go_simp; go_at_call 56; refine HD1.out.mono ?_; rintro e w11 ⟨rfl, h11⟩; have HE1 := Lib.hid h11; have c1 := (h11.at 2 rfl (j := 3) rfl).1; clear h11)
          | (go_simp; go_at_call 56; refine (HD2.out _ HE1.out).mono ?_; rintro e w12 ⟨rfl, h12⟩; have HE2 := Lib.hid h12; have c2 := (h12.at 2 rfl (j := 3) rfl).1; have lb2 := h12.lt 2 rfl; clear h12)
          | (refine step_append_crew (HE2.out.below ((Below.refl _ w12).alloc (Nat.le_refl _) (.cells #[.int .i64 (n1 : Int), .int .i64 (n2 : Int)] 53))) 3 rfl (by rfl) (.tmp 18) (.tmp 24) 23 (by rfl) (.agg #[.int .i64 0, .int .i64 0]) 16 Try.underlying23 infoP rfl (by decide) (by simp [Act.eval]) ⟨w12.heap.size, 0, none⟩ 1 1 [.int .i64 (n1 : Int), .int .i64 (n2 : Int)] (by simp [Act.eval]) rfl (news_span w12 _ _ _) (by simp [Value.oneCell']) (by unfold maxLen; omega) (by omega) ?_; intro v' w13 hF; obtain ⟨a7, c7, rfl⟩ := hF.slice 3 rfl; have HE3 := Lib.hid hF; obtain ⟨x0, y0⟩ := (hF.at 2 rfl (j := 3) rfl); clear hF))
      all_goals
        have HF : Hid (Crew (fun _ => False) w [blkT w.heap.size #[.int .u64 0, .int .i64 0, .int .i64 0, .slice none 0 0] 25, blkT (w.heap.size + 1) #[.string S2, .bool bad2] 88, blkT hb #[.int .u64 (g : Int), .int .i64 (sec : Int), .int .i64 (z : Int), .slice a7 (k + 1) c7] 25, rowT 0 53 2 (.slice a7 (k + 1) c7) (k + 1) (flatI (M ++ [((n1 : Int), (n2 : Int))]))] (w13.setCell ⟨hb, 3, none⟩ (.slice a7 (k + 1) c7))) := by
          have h := HE3.out.set 2 rfl 3 (.slice a7 (k + 1) c7)
          rw [flatI_append]
          exact h
        clear HE1 HE2 HE3 x0 y0 c0 c1 c2 lb2
        go_wp2
        exact ⟨⟨k + 1, S2, bad2, M ++ [((n1 : Int), (n2 : Int))], a7, c7, by go_num, by omega, HZ2.out, ⟨by rw [List.length_append, HI.out.1]; rfl, fun x hx => by
          rw [List.mem_append, List.mem_singleton] at hx
          rcases hx with hx | rfl
          · exact HI.out.2.1 x hx
          · have := HL1.out
            exact ⟨by show -9223372036854775808 ≤ (n1 : Int); omega, by show (n1 : Int) ≤ 9223372036854775807; omega⟩, HJ.out⟩, HF⟩, by simp [intOf]; omega⟩
    · obtain rfl : k = m := by omega
      have hltI : ¬ (k : Int) < k := by omega
      have c0 := (HR.out.at 2 rfl (j := 0) rfl).1
      have c1 := (HR.out.at 2 rfl (j := 1) rfl).1
      have c2 := (HR.out.at 2 rfl (j := 2) rfl).1
      have c3 := (HR.out.at 2 rfl (j := 3) rfl).1
      have d0 := (HR.out.at 0 rfl (j := 0) rfl).1
      have d1 := (HR.out.at 0 rfl (j := 1) rfl).1
      have d2 := (HR.out.at 0 rfl (j := 2) rfl).1
      have d3 := (HR.out.at 0 rfl (j := 3) rfl).1
      have e0 := (HR.out.at 0 rfl (j := 0) rfl).2
      have e1 := (HR.out.at 0 rfl (j := 1) rfl).2
      have e2 := (HR.out.at 0 rfl (j := 2) rfl).2
      have e3 := (HR.out.at 0 rfl (j := 3) rfl).2
      have C4 := ((((HR.out.set 0 rfl 0 (.int .u64 (g : Int))).set 0 rfl 1 (.int .i64 (sec : Int))).set 0 rfl 2 (.int .i64 (z : Int))).set 0 rfl 3 (.slice a k c))
      obtain ⟨O, ⟨hblk, _⟩, _⟩ := C4.one (i := 0) rfl
      have HBLK := Lib.hid hblk
      have HFR := Lib.hid ((C4.pick [3] (by decide) rfl).fresh)
      clear C4 hblk
      go_wp2
      refine bodyPost_ret (results_cell_row rfl _ _ w.heap.size 25 _ (0, 0) _ rfl HBLK.out Try.underlying25 rfl (by kernel_rfl)) rfl ?_
      refine ⟨.slice a k c, M, ?_, ?_, ?_, HI.out.2.1, fun h8 => ?_⟩
      · rw [HV.out.1, HV.out.2.1, HV.out.2.2]
        exact rfl
      · show Fresh (rowT 0 53 2 (.slice a k c) M.length (flatI M)) _ _
        rw [HI.out.1]
        exact HFR.out
      · rw [HI.out.1, HMM.out]
      · rw [HMM.out] at h8 ⊢
        exact (HI.out.2.2 h8).2.2

end Go.Proofs.Ytnknojkihjpjkaa
