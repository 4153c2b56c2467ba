/-
  LeReads: for every input the law answers true: what a reader takes off, what is left, and whether it is bad, are as the document says, take by take. Conditions: none.
-/
import Derived.Test.YtodidacblnhmgaaLeLaw
namespace Go.Proofs.Ytodidacblnhmgaa.leReads
open Go.ChangeShapes Go.WideShapes Go.ChangeAt Go.RowKit
open Go.ChangeMaps (open_string shut_string)

theorem over_quiet (b : Nat) (s : ByteArray) (bad : Bool) (w : World) (h : Rd 30 b s bad w) (n : Nat) :
    Calls Try.prog 19 #[.pointer (some ⟨b, 0, none⟩)] (w.drewN n) fun e w' => e = .returned (.bool (s.toList.isEmpty && !bad)) ∧ ∃ m, w' = w.drewN m :=
  (Over_any b s bad (w.drewN n) h).mono fun _ _ ⟨he, hw⟩ => ⟨he, n, hw.symm⟩

theorem overR_quiet (b : Nat) (s : ByteArray) (bad : Bool) (w : World) (h : Rd 32 b s bad w) (n : Nat) :
    Calls Try.prog 20 #[.pointer (some ⟨b, 0, none⟩)] (w.drewN n) fun e w' => e = .returned (.bool (s.toList.isEmpty && !bad)) ∧ ∃ m, w' = w.drewN m :=
  (OverR_any b s bad (w.drewN n) h).mono fun _ _ ⟨he, hw⟩ => ⟨he, n, hw.symm⟩

theorem _root_.Go.RowKit.Below.drewN {B : Nat} {a w : World} (h : Below B a w) (n : Nat) : Below B a (w.drewN n) := ⟨h.os, h.tape, h.output, h.size, h.block⟩

set_option maxHeartbeats 2000000 in
theorem some_row (a0 : ByteArray) (x : Addr) (len cap : Nat) (z : List Int) (w : World) (w0 : a0.size ≤ maxLen) (hl : len ≤ 60)
    (hrow : Hid (∀ i, i < len → w.cell? (x.add i) = some (.int .i64 (z.getD i 0)))) :
    Calls Try.prog 4 #[.string a0, .slice (some x) len cap] w fun e w' => e = .returned (.bool true) ∧ Below w.heap.size w w' := by
  have hl' : ¬ (60 : Int) < len := by omega
  go_enter Try.func4, Try.ntmps4
  go_wp2_with (go_at_call 10; refine (shown_any _).mono ?_; rintro e w1 ⟨rfl, hbw⟩)
  have hsz := Lib.hid hbw.size
  go_loopw [8] (fun i wr => ∃ (k : Nat) (s : ByteArray) (bad : Bool), i = .int .i64 k ∧ k ≤ len ∧ s.size ≤ maxLen ∧ Rd 30 w1.heap.size s bad wr ∧ Rd 32 (w1.heap.size + 1) s bad wr ∧ Below w.heap.size w wr) (fun i _ => (len - intOf i).toNat)
  case atStart =>
    have h1 := Rd.new 30 a0 false w1
    have h2 := h1.below ((Below.refl _ _).alloc (Nat.le_refl _) (.cells #[.string a0, .bool false] 32 (0, 0)))
    have h3 := Rd.new 32 a0 false (w1.alloc (.cells #[.string a0, .bool false] 30 (0, 0)))
    have e : (w1.alloc (.cells #[.string a0, .bool false] 30 (0, 0))).heap.size = w1.heap.size + 1 := by simp
    rw [e] at h3
    exact ⟨0, a0, false, rfl, Nat.zero_le _, w0, h2, h3, (hbw.alloc hsz.out _).alloc (by have := hsz.out; simp; omega) _⟩
  case round =>
    obtain ⟨k, s, bad, rfl, hk, hs, hr, hm, hb⟩ := hrel
    have HR := Lib.hid hr
    have HM := Lib.hid hm
    have HSZ := Lib.hid hs
    clear hr hm hs
    by_cases hlt : k < len
    · have hlt' : (k : Int) < len := by omega
      have hc := hrow.out k hlt
      generalize z.getD k 0 = y at hc
      have HC := Lib.hid (fun (w' : World) (h : Below w.heap.size w w') => (h.cell (row_block hc)).trans hc)
      clear hc
      have hc := HC.out wr hb
      by_cases hev : k % 2 = 0
      · have hev' : (k : Int) % 2 = 0 := by omega
        clear hev
        go_wp2_with (first
          | (go_at_call 15; refine (Number_any _ s bad y HSZ.out _ HR.out).mono ?_; rintro e w2 ⟨rfl, hr2, hk2⟩; have hb2 : Below w.heap.size w w2 := hb.trans (hk2.below hsz.out); have hc2 := HC.out w2 hb2; have HR2 := Lib.hid hr2; have HM2 := Lib.hid (HM.out.kept hk2 (by omega)); clear hr2 hk2)
          | (go_at_call 16; refine (NumberR_any _ s bad y HSZ.out _ HM2.out).mono ?_; rintro e w3 ⟨rfl, hm3, hk3⟩; have hb3 : Below w.heap.size w w3 := hb2.trans (hk3.below (Nat.le_trans hsz.out (Nat.le_succ _))); have HM3 := Lib.hid hm3; have HR3 := Lib.hid (HR2.out.kept hk3 (by omega)); clear hm3 hk3))
        have hs' : (lft s (bad || decide (8 < y)) y).size ≤ maxLen := lft_le _ _ _ HSZ.out
        generalize lft s (bad || decide (8 < y)) y = s' at HM3 HR3 hs'
        generalize no s (bad || decide (8 < y)) y = bad' at HM3 HR3
        have HSZ' := Lib.hid hs'
        clear hs'
        have c0 : w3.cell? ⟨w1.heap.size, 0, none⟩ = some (.string s') := by rw [Lib.cell_of_heap HR3.out]; rfl
        have c1 : w3.cell? ⟨w1.heap.size, 1, none⟩ = some (.bool bad') := by rw [Lib.cell_of_heap HR3.out]; rfl
        have d0 : w3.cell? ⟨w1.heap.size + 1, 0, none⟩ = some (.string s') := by rw [Lib.cell_of_heap HM3.out]; rfl
        have d1 : w3.cell? ⟨w1.heap.size + 1, 1, none⟩ = some (.bool bad') := by rw [Lib.cell_of_heap HM3.out]; rfl
        have HO := Lib.hid (over_quiet _ _ _ _ HR3.out)
        have HP := Lib.hid (overR_quiet _ _ _ _ HM3.out)
        go_quiet (first | exact HO.out _ | exact HP.out _)
        go_wp2
        go_roundw
        case rel => exact ⟨k + 1, s', bad', by go_num, by omega, HSZ'.out, HR3.out, HM3.out, hb3.drewN _⟩
        case measure => simp [intOf]; omega
      · have hev' : (k : Int) % 2 = 1 := by omega
        clear hev
        go_wp2_with (first
          | (go_at_call 17; refine (Text_any _ s bad y _ HR.out).mono ?_; rintro e w2 ⟨rfl, hr2, hk2⟩; have hb2 : Below w.heap.size w w2 := hb.trans (hk2.below hsz.out); have hc2 := HC.out w2 hb2; have HR2 := Lib.hid hr2; have HM2 := Lib.hid (HM.out.kept hk2 (by omega)); clear hr2 hk2)
          | (go_at_call 18; refine (TextR_any _ s bad y _ HM2.out).mono ?_; rintro e w3 ⟨rfl, hm3, hk3⟩; have hb3 : Below w.heap.size w w3 := hb2.trans (hk3.below (Nat.le_trans hsz.out (Nat.le_succ _))); have HM3 := Lib.hid hm3; have HR3 := Lib.hid (HR2.out.kept hk3 (by omega)); clear hm3 hk3))
        have hs' : (lft s bad y).size ≤ maxLen := lft_le _ _ _ HSZ.out
        generalize lft s bad y = s' at HM3 HR3 hs'
        generalize no s bad y = bad' at HM3 HR3
        have HSZ' := Lib.hid hs'
        clear hs'
        have c0 : w3.cell? ⟨w1.heap.size, 0, none⟩ = some (.string s') := by rw [Lib.cell_of_heap HR3.out]; rfl
        have c1 : w3.cell? ⟨w1.heap.size, 1, none⟩ = some (.bool bad') := by rw [Lib.cell_of_heap HR3.out]; rfl
        have d0 : w3.cell? ⟨w1.heap.size + 1, 0, none⟩ = some (.string s') := by rw [Lib.cell_of_heap HM3.out]; rfl
        have d1 : w3.cell? ⟨w1.heap.size + 1, 1, none⟩ = some (.bool bad') := by rw [Lib.cell_of_heap HM3.out]; rfl
        have HO := Lib.hid (over_quiet _ _ _ _ HR3.out)
        have HP := Lib.hid (overR_quiet _ _ _ _ HM3.out)
        go_quiet (first | exact HO.out _ | exact HP.out _)
        go_wp2
        go_roundw
        case rel => exact ⟨k + 1, s', bad', by go_num, by omega, HSZ'.out, HR3.out, HM3.out, hb3.drewN _⟩
        case measure => simp [intOf]; omega
    · have hlt' : ¬ (k : Int) < len := by omega
      go_wp2
      go_ret
      exact ⟨rfl, hb⟩

set_option maxHeartbeats 1000000 in
theorem long_row (a0 : ByteArray) (a : Option Addr) (len cap : Nat) (w : World) (hl : 60 < (len : Int)) :
    Calls Try.prog 4 #[.string a0, .slice a len cap] w fun e w' => e = .returned (.bool true) ∧ Below w.heap.size w w' := by
  go_enter Try.func4, Try.ntmps4
  go_wp2_with (go_at_call 10; refine (shown_any _).mono ?_; rintro e w1 ⟨rfl, hbw⟩)
  go_ret
  exact ⟨rfl, hbw⟩

set_option maxHeartbeats 1000000 in
theorem no_row (a0 : ByteArray) (a : Option Addr) (cap : Nat) (w : World) :
    Calls Try.prog 4 #[.string a0, .slice a 0 cap] w fun e w' => e = .returned (.bool true) ∧ Below w.heap.size w w' := by
  go_enter Try.func4, Try.ntmps4
  go_wp2_with (go_at_call 10; refine (shown_any _).mono ?_; rintro e w1 ⟨rfl, hbw⟩)
  have hsz := Lib.hid hbw.size
  go_loopw [8] (fun i wr => i = .int .i64 0 ∧ Below w.heap.size w wr) (fun _ _ => 0)
  case atStart => exact ⟨rfl, (hbw.alloc hsz.out _).alloc (by have := hsz.out; simp; omega) _⟩
  case round =>
    obtain ⟨rfl, hb⟩ := hrel
    go_wp2
    go_ret
    exact ⟨rfl, hb⟩

theorem walk (a0 : ByteArray) (w0 : a0.size ≤ maxLen) (a : Option Addr) (len cap : Nat) (z : List Int) (w : World) (w1 : IsRow .i64 w a len cap z) :
    Calls Try.prog 4 #[.string a0, .slice a len cap] w fun e w' => e = .returned (.bool true) ∧ Below w.heap.size w w' := by
  by_cases hl : len ≤ 60
  · rcases w1 with ⟨rfl, rfl, rfl, rfl⟩ | ⟨x, rfl, h1, _, h3, h4, _⟩
    · exact no_row a0 none 0 w
    · exact some_row a0 x len cap z w w0 hl (fun i hi => h4 i (by omega))
  · exact long_row a0 a len cap w (by omega)

set_option maxRecDepth 100000 in
theorem lifted (os : Os) (started : os.Started) (H : Type) (enc : TypeId × Value → H) :
    ReturnsInHanded {} Try.checked os 4 .any (Rows.leReadsSpec.pre6 enc Try.prog Try.f4 Rows.leReadsRow.domain false) (Rows.leReadsSpec.post enc Try.prog Try.f4 false true false false) := by
  refine returnsInHanded_of_change (C := Try.checked) own started (by kernel_rfl) Try.func4
    (ChangeSpec.witness6 (enc := enc) (C := Try.checked) false ⟨#[], #[.string ByteArray.empty, .slice none 0 0], []⟩ 8 (by kernel_rfl) (by kernel_rfl) (by kernel_rfl) (by kernel_rfl)) ?_
  intro W base args ds gs before hval0 hW _ _
  have hval : ∀ (j : Nat) t v, Try.f4.params[j]? = some t → args[j]? = some v → Value.okWide Try.prog W .any base t v := hval0
  have hW' := hW
  obtain ⟨p, q, hA0, hV, rfl, hfz, hnd⟩ := hW
  have hA : DataW.TrodAll enc Try.prog W 0 (fun _ => true) true Try.f4.params.toList args.toList ds p := hA0
  rw [Try.params4] at hA hval
  obtain ⟨v0, vs0, d0, ds0, p0, q0, hargs, rfl, rfl, h0, r0⟩ := trodAll_cons hA
  obtain ⟨v1, vs1, d1, ds1, p1, q1, rfl, rfl, rfl, h1, r1⟩ := trodAll_cons r0
  obtain ⟨rfl, rfl, rfl⟩ := trodAll_nil r1
  obtain rfl : args = #[v0, v1] := by cases args; simp_all
  obtain ⟨rfl, rfl⟩ := trodVars_none hV
  obtain ⟨a0, rfl, rfl, rfl, w0⟩ := open_string Try.underlying9 (hval 0 9 v0 rfl rfl) h0
  obtain ⟨a1, len1, cap1, rfl⟩ := okWide_slice Try.underlying27 (hval 1 27 v1 rfl rfl)
  have k1 := h1
  have lt1 : ∀ x ∈ p1, x.block < W.heap.size := by obtain ⟨m, hm⟩ := k1; exact DataW.trod_lt m _ _ _ hm
  obtain ⟨z1, w1⟩ : ∃ zs, IsRow .i64 W a1 len1 cap1 zs := by
    obtain ⟨fuel, hf⟩ := h1
    rcases open_ints Try.underlying27 Try.underlying3 (by kernel_rfl) hf with ⟨hcs, _⟩ | ⟨x, l, c, zs, hcs, _, hl, hm, hz, _, hcell, hwz⟩
    · simp [Value.cells] at hcs
      obtain ⟨rfl, rfl, rfl⟩ := hcs
      exact ⟨[], .inl ⟨rfl, rfl, rfl, rfl⟩⟩
    · simp [Value.cells] at hcs
      obtain ⟨rfl, rfl, rfl⟩ := hcs
      exact ⟨zs, .inr ⟨_, rfl, hl, hm, by simpa using hz, hcell, hwz⟩⟩
  clear hA0 hval0
  refine (walk a0 w0 a1 len1 cap1 z1 W w1).mono fun e W' ⟨he, bel⟩ => ?_
  subst he
  exact ⟨_, rfl, _, _, _, [], _, [], hW', trodAll_mk1 (shut_bool Try.underlying4 _), (trodAll_cons_mk (shut_string Try.underlying9 w0) (trodAll_cons_mk (Below.trod laidOut (by kernel_rfl) (of_decide_eq_true (by kernel_rfl)) k1 bel lt1) trodAll_mk0)), rfl, bel.frame _, fun h => by cases h⟩

theorem holds : Rows.LeReadsSaid :=
  OpenClaim.holds_of_wide 4 Try.f4 rfl rfl rfl rfl rfl rfl rfl ⟨rfl, rfl, rfl, rfl, rfl⟩ rfl rfl rfl rfl rfl (by kernel_rfl) Try.func4 (by kernel_rfl)
    (of_decide_eq_true (by kernel_rfl)) (by unfold Func.isWrapper; first | (rw [if_pos (by decide +kernel)]; kernel_rfl) | (rw [if_neg (by decide +kernel)]; exact ⟨rfl, rfl⟩))
    (fun os started H enc _ => lifted os started H enc)

end Go.Proofs.Ytodidacblnhmgaa.leReads
