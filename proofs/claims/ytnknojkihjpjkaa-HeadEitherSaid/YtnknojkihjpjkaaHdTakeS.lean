/-
  The head that the document's Take reads, up to its Put. Conditions: as each theorem states them.
-/
import Derived.Test.YtnknojkihjpjkaaHdTakeR
import Derived.Deep.CutRange
namespace Go.Proofs.Ytnknojkihjpjkaa
open Go.RowKit Go.Rc5 Go.Rc6

theorem GetR_cut (t : ByteArray) (ht : t.size = 60) (p q n : Nat) (hq : q = p + n) (hn : n ≤ 8) (v : Nat) (hv : Rc2.say (cut t.data.toList p n) = v) (w : World) :
    Calls Try.prog 41 #[.string (t.extract p q)] w fun e w' => e = .returned (.int .u64 (v : Int)) ∧ w = w' := by
  have := GetR_any (t.extract p q) (by rw [ByteArray.size_extract]; unfold maxLen; omega) w
  have e : Rc2.get (t.extract p q).data.toList = v := by
    rw [← hv, ByteArray.data_extract, Array.toList_extract, List.extract_eq_take_drop]
    unfold Rc2.get cut
    rw [List.take_take, hq, show min 8 (p + n - p) = n by omega]
  rw [e] at this
  exact this

/-- What is handed back: the head that was read, or none. -/
def Out (ok : Bool) (g s z : Nat) (L : List SpI) (w : World) (e : Ending) (w' : World) : Prop :=
  match ok with
  | true => ∃ v : Value, e = .returned (.tuple #[.agg #[.int .u64 (g : Int), .int .i64 (s : Int), .int .i64 (z : Int), v], .int .i64 0]) ∧ Fresh (spT v L) w w'
  | false => e = .returned (.tuple #[.agg #[.int .u64 0, .int .i64 0, .int .i64 0, .slice none 0 0], .int .i64 2]) ∧ Below w.heap.size w w'

set_option maxRecDepth 100000 in
set_option maxHeartbeats 16000000 in
theorem takeH_core (t : ByteArray) (ht : t.size = 60) (m : Nat) (hm : many t.data.toList = m) (h8 : m ≤ 8) (g s z : Nat) (hg : Rc2.say (cut t.data.toList 4 8) = g) (hs : Rc2.say (cut t.data.toList 12 2) = s) (hz : Rc2.say (cut t.data.toList 14 4) = z)
    (P S : ByteArray) (hS : sealedB t = S) (x : Int) (ok : Bool) (hok : (ok = true ∧ x = 0 ∧ P = S) ∨ (ok = false ∧ x = 0 ∧ P ≠ S) ∨ (ok = false ∧ x = 1))
    (hput : ∀ W a c, SpansAt W a (castS (readSpans t.data.toList m)) → Calls Try.prog 11 #[.agg #[.int .u64 (g : Int), .int .i64 (s : Int), .int .i64 (z : Int), .slice a m c]] W fun e w' => e = .returned (.tuple #[.string P, .int .i64 x]) ∧ Below W.heap.size W w') (w : World) :
    Calls Try.prog 17 #[.string S] w (Out ok g s z (castS (readSpans t.data.toList m)) w) := by
  have hi : (S.size : Int) = 64 := by rw [← hS, sealed_size]; omega
  have HT := Lib.hid (fun W => by
    have := TakeR_any (sealedB t) (by rw [sealed_size, ht]; decide) W
    rw [(tk_sealed t).1, (tk_sealed t).2, hS] at this
    exact this)
  have HC := Lib.hid ((Crew.start w).block #[.int .u64 0, .int .i64 0, .int .i64 0, .slice none 0 0] 31)
  have h18 : 18 < t.size := by omega
  have hmm : (t[18]).toNat = m := by
    rw [many_at _ (by rw [← size_list]; exact h18)] at hm
    exact hm
  have G8 := Lib.hid (GetR_cut t ht 4 12 8 rfl (by decide) g hg)
  have G2 := Lib.hid (GetR_cut t ht 12 14 2 rfl (by decide) s hs)
  have G4 := Lib.hid (GetR_cut t ht 14 18 4 rfl (by decide) z hz)
  have b2 := say_cut_lt t.data.toList 12 2
  have b4 := say_cut_lt t.data.toList 14 4
  rw [hs] at b2
  rw [hz] at b4
  have u2 := wrap_u16 (n := s) (by omega)
  have u4 := wrap_u32 (n := z) (by omega)
  have HP := Lib.hid hput
  have HOK := Lib.hid hok
  have HTZ := Lib.hid ht
  have HLEN : Hid (∀ k, (castS (readSpans t.data.toList k)).length = k) := fun k => by rw [castS_length, readSpans_length]
  clear hput hok hm hg hs hz hS b2 b4
  go_enter Try.func17, Try.ntmps17
  go_wp2_with fail
  refine (HT.out _).mono ?_
  rintro e w1 ⟨rfl, hb1⟩
  replace HC := Lib.hid (HC.out.below hb1)
  clear HT hb1
  go_wp2_with fail
  have k1 : (12 : Int) ≤ t.size := by omega
  have k2 : (14 : Int) ≤ t.size := by omega
  have k3 : (18 : Int) ≤ t.size := by omega
  go_upto_region 9 with fail
  go_cut [7] from 30 to 41 (fun p wx => p = .pointer (some ⟨w1.heap.size, 0, none⟩) ∧ wx = (w1.alloc (.cells #[.int .u64 (g : Int), .int .i64 (s : Int), .int .i64 (z : Int), .slice none 0 0] 31)).drew)
  case first =>
    go_region_law (go_simp; go_at_call 41; (first | with_reducible refine (G8.out _).mono ?_ | with_reducible refine (G2.out _).mono ?_ | with_reducible refine (G4.out _).mono ?_); rintro e w5 ⟨rfl, rfl⟩)
    all_goals (go_wp2_with fail; go_meet; exact ⟨rfl, rfl⟩)
  case rest =>
    obtain ⟨rfl, rfl⟩ := hcut
    have HR0 : Hid (Crew (fun _ => False) w [blkT w.heap.size #[.int .u64 0, .int .i64 0, .int .i64 0, .slice none 0 0] 31, blkT w1.heap.size #[.int .u64 (g : Int), .int .i64 (s : Int), .int .i64 (z : Int), .slice none 0 0] 31, rowT 0 53 2 (.slice none 0 0) 0 (flatI [])] ((w1.alloc (.cells #[.int .u64 (g : Int), .int .i64 (s : Int), .int .i64 (z : Int), .slice none 0 0] 31)).drew)) := by
      have h1 := ((HC.out.block #[.int .u64 (g : Int), .int .i64 (s : Int), .int .i64 (z : Int), .slice none 0 0] 31).below (Below.refl _ _).drew).nil 53 2
      exact h1
    obtain ⟨hb, hhb⟩ : ∃ hb, w1.heap.size = hb := ⟨_, rfl⟩
    rw [hhb] at HR0 ⊢
    clear HC G8 G2 G4 k1 k2 k3 u2 u4
    go_wp2_with fail
    go_loopw [8] (fun i wr => ∃ (k : Nat) (a : Option Addr) (c : Nat), i = .int .i64 k ∧ k ≤ m ∧ Hid (Crew (fun _ => False) w [blkT w.heap.size #[.int .u64 0, .int .i64 0, .int .i64 0, .slice none 0 0] 31, blkT hb #[.int .u64 (g : Int), .int .i64 (s : Int), .int .i64 (z : Int), .slice a k c] 31, rowT 0 53 2 (.slice a k c) k (flatI (castS (readSpans t.data.toList k)))] wr)) (fun i _ => (m - intOf i).toNat)
    case atStart => exact ⟨0, none, 0, rfl, Nat.zero_le _, HR0.out⟩
    case round =>
      obtain ⟨k, a, c, rfl, hk, HR⟩ := hrel
      clear HR0
      by_cases hlt : k < m
      · have hltI : (k : Int) < m := by omega
        obtain ⟨n4, hn4⟩ : ∃ n, 4 * k = n := ⟨_, rfl⟩
        obtain ⟨p, hp⟩ : ∃ p, 19 + 4 * k = p := ⟨_, rfl⟩
        obtain ⟨q, hq⟩ : ∃ q, 21 + 4 * k = q := ⟨_, rfl⟩
        obtain ⟨r, hr⟩ : ∃ r, 23 + 4 * k = r := ⟨_, rfl⟩
        have i1 : IntKind.i64.wrap (4 * (k : Int)) = (n4 : Int) := (IntWalk.i64_in _ (by omega)).trans (by omega)
        have i2 : IntKind.i64.wrap (19 + (n4 : Int)) = (p : Int) := (IntWalk.i64_in _ (by omega)).trans (by omega)
        have i3 : IntKind.i64.wrap (21 + (n4 : Int)) = (q : Int) := (IntWalk.i64_in _ (by omega)).trans (by omega)
        have i4 : IntKind.i64.wrap (23 + (n4 : Int)) = (r : Int) := (IntWalk.i64_in _ (by omega)).trans (by omega)
        have s1 : (p : Int) ≤ q := by omega
        have s2 : (q : Int) ≤ t.size := by omega
        have s3 : (q : Int) ≤ r := by omega
        have s4 : (r : Int) ≤ t.size := by omega
        have s5 : p ≤ q := by omega
        have s6 : q ≤ t.size := by omega
        have s7 : q ≤ r := by omega
        have s8 : r ≤ t.size := by omega
        obtain ⟨n1, hn1⟩ : ∃ n, Rc2.say (cut t.data.toList p 2) = n := ⟨_, rfl⟩
        obtain ⟨n2, hn2⟩ : ∃ n, Rc2.say (cut t.data.toList q 2) = n := ⟨_, rfl⟩
        have l1 := say_cut_lt t.data.toList p 2
        have l2 := say_cut_lt t.data.toList q 2
        rw [hn1] at l1
        rw [hn2] at l2
        have u1 := wrap_u16 l1
        have u2 := wrap_u16 l2
        have G1 := Lib.hid (GetR_cut t HTZ.out p q 2 (by omega) (by decide) n1 hn1)
        have G2 := Lib.hid (GetR_cut t HTZ.out q r 2 (by omega) (by decide) n2 hn2)
        have HJ : Hid (castS (readSpans t.data.toList (k + 1)) = castS (readSpans t.data.toList k) ++ [((n1 : Int), (n2 : Int))]) := by
          rw [readSpans_succ, hp, hq, hn1, hn2]
          exact rfl
        have c0 := (HR.out.at 1 rfl (j := 3) rfl).1
        have f0 := (HR.out.at 1 rfl (j := 3) rfl).2
        have lb := HR.out.lt 1 rfl
        clear hn4 hp hq hr hn1 hn2 l1 l2 ht hmm h18 hi
        go_wp2
        go_region_law
          (first
            | (go_simp; go_at_call 41; (first | with_reducible refine (G1.out _).mono ?_ | with_reducible refine (G2.out _).mono ?_); rintro e w5 ⟨rfl, rfl⟩)
            | (refine step_append_crew ((HR.out.below ((Below.refl _ wr).drew)).below ((Below.refl _ wr.drew).alloc (Nat.le_refl _) (.cells #[.int .i64 (n1 : Int), .int .i64 (n2 : Int)] 53))) 2 rfl (by rfl) (.tmp 48) (.tmp 70) 23 (by rfl) (.agg #[.int .i64 0, .int .i64 0]) 16 Try.underlying23 infoP rfl (by decide) (by simp [Act.eval]) ⟨wr.drew.heap.size, 0, none⟩ 1 1 [.int .i64 (n1 : Int), .int .i64 (n2 : Int)] (by simp [Act.eval]) rfl (news_span wr.drew _ _ _) (by simp [Value.oneCell']) (by unfold maxLen; omega) (by omega) ?_; intro v' w13 hF; obtain ⟨a7, c7, rfl⟩ := hF.slice 2 rfl; have HE3 := Lib.hid hF; obtain ⟨x0, y0⟩ := (hF.at 1 rfl (j := 3) rfl); clear hF))
        all_goals
          have HF : Hid (Crew (fun _ => False) w [blkT w.heap.size #[.int .u64 0, .int .i64 0, .int .i64 0, .slice none 0 0] 31, blkT hb #[.int .u64 (g : Int), .int .i64 (s : Int), .int .i64 (z : Int), .slice a7 (k + 1) c7] 31, rowT 0 53 2 (.slice a7 (k + 1) c7) (k + 1) (flatI (castS (readSpans t.data.toList (k + 1))))] (w13.setCell ⟨hb, 3, none⟩ (.slice a7 (k + 1) c7))) := by
            have h := HE3.out.set 1 rfl 3 (.slice a7 (k + 1) c7)
            rw [HJ.out, flatI_append]
            exact h
          clear HE3 x0 y0 c0 f0 lb
          go_wp2
          exact ⟨⟨k + 1, a7, c7, by go_num, by omega, HF⟩, by simp [intOf]; omega⟩
      · obtain rfl : k = m := by omega
        have hltI : ¬ (k : Int) < k := by omega
        have c0 := (HR.out.at 1 rfl (j := 0) rfl).1
        have c1 := (HR.out.at 1 rfl (j := 1) rfl).1
        have c2 := (HR.out.at 1 rfl (j := 2) rfl).1
        have c3 := (HR.out.at 1 rfl (j := 3) rfl).1
        have hsp : SpansAt wr a (castS (readSpans t.data.toList k)) := by
          have := HR.out.own 2 rfl
          exact (spans_own this).2
        have HQ := Lib.hid (HP.out wr a c hsp)
        clear hsp HP hmm ht h18
        go_wp2_with fail
        refine HQ.out.mono ?_
        rintro e w2 ⟨rfl, hb2⟩
        have C := HR.out.below hb2
        have c0 := (C.at 1 rfl (j := 0) rfl).1
        have c1 := (C.at 1 rfl (j := 1) rfl).1
        have c2 := (C.at 1 rfl (j := 2) rfl).1
        have c3 := (C.at 1 rfl (j := 3) rfl).1
        have d0 := (C.at 0 rfl (j := 0) rfl).1
        have d1 := (C.at 0 rfl (j := 1) rfl).1
        have d2 := (C.at 0 rfl (j := 2) rfl).1
        have d3 := (C.at 0 rfl (j := 3) rfl).1
        have e0 := (C.at 0 rfl (j := 0) rfl).2
        have e1 := (C.at 0 rfl (j := 1) rfl).2
        have e2 := (C.at 0 rfl (j := 2) rfl).2
        have e3 := (C.at 0 rfl (j := 3) rfl).2
        have CZ := C.set4 0 rfl (.int .u64 0) (.int .i64 0) (.int .i64 0) (.slice none 0 0)
        have CY := C.set4 0 rfl (.int .u64 (g : Int)) (.int .i64 (s : Int)) (.int .i64 (z : Int)) (.slice a k c)
        obtain ⟨O, ⟨hz, _⟩, _⟩ := CZ.one (i := 0) rfl
        obtain ⟨O2, ⟨hy, _⟩, _⟩ := CY.one (i := 0) rfl
        have HZ := Lib.hid hz
        have HY := Lib.hid hy
        have HZB := Lib.hid CZ.bel
        have HYS := Lib.hid ((CY.pick [2] (by decide) rfl).fresh)
        clear C CZ CY hz hy hb2 HQ HR
        rcases HOK.out with ⟨rfl, rfl, rfl⟩ | ⟨rfl, rfl, hne⟩ | ⟨rfl, rfl⟩
        · go_wp2_with fail
          refine bodyPost_ret (row_headR rfl HY.out _ 2 3 rfl _ rfl) rfl ⟨_, rfl, ?_⟩
          show Fresh (rowT 0 53 2 _ (castS (readSpans t.data.toList k)).length _) _ _
          rw [HLEN.out]
          exact HYS.out
        · have ht := beq_list hne
          go_wp2_with fail
          exact bodyPost_ret (zero_headR HZ.out _ 2 3 rfl _ rfl) rfl ⟨rfl, HZB.out⟩
        · go_wp2_with fail
          exact bodyPost_ret (zero_headR HZ.out _ 2 3 rfl _ rfl) rfl ⟨rfl, HZB.out⟩

end Go.Proofs.Ytnknojkihjpjkaa
