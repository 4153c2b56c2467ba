/-
  What label.Count, label.First, label.Valid and label.Right answer, by the cutting of a text's bytes into runes and wrong bytes. Condition: the text has at most 2^40 bytes.
-/
import Derived.Test.YtghnjdbamenkgaaDoorMathC
import Derived.Test.YtghnjdbamenkgaaDoorQuote
namespace Go.Proofs.YtghnjdbamenkgaaDoor
open Go.RowKit

theorem len_data (s : ByteArray) : s.data.toList.length = s.size := by simp

theorem extract_take (s : ByteArray) (k : Nat) : s.extract 0 k = ⟨(s.data.toList.take k).toArray⟩ := by
  apply ByteArray.ext
  rw [ByteArray.data_extract]
  apply Array.ext'
  rw [Array.toList_extract, List.extract_eq_take_drop]
  simp

theorem below_iter (w : World) (s : ByteArray) (pos : Nat) : Below w.heap.size w (w.iter s pos) := (Below.refl _ w).alloc (Nat.le_refl _) _

set_option maxHeartbeats 1000000 in
theorem Count_any (s : ByteArray) (hs : s.size ≤ 1099511627776) (w : World) :
    Calls Tryd.prog 14 #[.string s] w fun e w' => e = .returned (.int .i64 (Rc1.count s.data.toList)) ∧ Below w.heap.size w w' := by
  have HL := Lib.hid (len_data s)
  go_enter Tryd.func14, Tryd.ntmps14
  go_wp2
  go_loopw [3] (fun n w' => ∃ (pos m : Nat), w' = w.iter s pos ∧ n = .int .i64 m ∧ Rc1.At s.data.toList pos m) (fun _ w' => s.size - w'.iterPos w.heap.size)
  case atStart => exact ⟨0, 0, rfl, rfl, Rc1.At.zero _⟩
  case round =>
    obtain ⟨pos, m, rfl, rfl, hA⟩ := hrel
    have hm := hA.2.2.1
    have hps := hA.1
    rw [HL.out] at hps
    have HA := Lib.hid hA
    clear hA
    by_cases hp : pos < s.size
    · have hnx : ∀ ty, (Instr.next (.pointer (some ⟨w.heap.size, 0, none⟩)) true ty).run Tryd.prog (w.iter s pos) = _ := fun ty => run_next_any w s pos ty hp
      go_wp2
      go_roundw
      case rel => exact ⟨_, m + 1, rfl, by go_num, by rw [Rc1.decode_eq]; exact HA.out.step (by rw [HL.out]; exact hp)⟩
      case measure =>
        have := Rc1.dec_pos _ (drop_ne hp)
        rw [← Rc1.decode_eq] at this
        simp; omega
    · have hnx : ∀ ty, (Instr.next (.pointer (some ⟨w.heap.size, 0, none⟩)) true ty).run Tryd.prog (w.iter s pos) = _ := fun ty => run_next_end w s pos ty hp
      go_wp2
      go_ret
      have := HA.out.over (by rw [HL.out]; exact hp)
      rw [this]
      exact ⟨rfl, below_iter _ _ _⟩

set_option maxHeartbeats 1000000 in
theorem First_any (s : ByteArray) (n : Int) (hs : s.size ≤ 1099511627776) (w : World) :
    Calls Tryd.prog 16 #[.string s, .int .i64 n] w fun e w' => e = .returned (.string ⟨(Rc1.first s.data.toList n.toNat).toArray⟩) ∧ Below w.heap.size w w' := by
  have HL := Lib.hid (len_data s)
  go_enter Tryd.func16, Tryd.ntmps16
  go_wp2
  go_loopw [5, 6] (fun k _ w' => ∃ (pos m : Nat), w' = w.iter s pos ∧ k = .int .i64 m ∧ Rc1.At s.data.toList pos m ∧ m ≤ n.toNat) (fun _ _ w' => s.size - w'.iterPos w.heap.size)
  case atStart => exact ⟨0, 0, rfl, rfl, Rc1.At.zero _, Nat.zero_le _⟩
  case round =>
    obtain ⟨pos, m, rfl, rfl, hA, hmn⟩ := hrel
    have hm := hA.2.2.1
    have hps := hA.1
    rw [HL.out] at hps
    have HA := Lib.hid hA
    clear hA
    by_cases hp : pos < s.size
    · have hnx : ∀ ty, (Instr.next (.pointer (some ⟨w.heap.size, 0, none⟩)) true ty).run Tryd.prog (w.iter s pos) = _ := fun ty => run_next_any w s pos ty hp
      by_cases hge : n ≤ m
      · go_wp2
        go_ret
        have e : m = n.toNat := by omega
        refine ⟨?_, below_iter _ _ _⟩
        rw [← e, ← HA.out.first, ← extract_take]
        rfl
      · go_wp2
        go_roundw
        case rel => exact ⟨_, m + 1, rfl, by go_num, by rw [Rc1.decode_eq]; exact HA.out.step (by rw [HL.out]; exact hp), by omega⟩
        case measure =>
          have := Rc1.dec_pos _ (drop_ne hp)
          rw [← Rc1.decode_eq] at this
          simp; omega
    · have hnx : ∀ ty, (Instr.next (.pointer (some ⟨w.heap.size, 0, none⟩)) true ty).run Tryd.prog (w.iter s pos) = _ := fun ty => run_next_end w s pos ty hp
      go_wp2
      go_ret
      have := HA.out.over (by rw [HL.out]; exact hp)
      rw [Rc1.first_all _ _ (by unfold Rc1.count; omega)]
      exact ⟨by simp, below_iter _ _ _⟩

set_option maxHeartbeats 1000000 in
theorem Valid_any (s : ByteArray) (hs : s.size ≤ 1099511627776) (w : World) :
    Calls Tryd.prog 12 #[.string s] w fun e w' => e = .returned (.bool (Rc1.valid s.data.toList)) ∧ Below w.heap.size w w' := by
  have HL := Lib.hid (len_data s)
  go_enter Tryd.func12, Tryd.ntmps12
  go_wp2
  go_loopw [3, 4] (fun _ _ w' => ∃ (pos m : Nat), w' = w.iter s pos ∧ Rc1.At s.data.toList pos m ∧ Hid (((Rc1.cut s.data.toList).take m).all (fun c => !Rc1.wr c) = true)) (fun _ _ w' => s.size - w'.iterPos w.heap.size)
  case atStart => exact ⟨0, 0, rfl, Rc1.At.zero _, rfl⟩
  case round =>
    obtain ⟨pos, m, rfl, hA, hal⟩ := hrel
    have hps := hA.1
    rw [HL.out] at hps
    have HA := Lib.hid hA
    clear hA
    by_cases hp : pos < s.size
    · have hnx : ∀ ty, (Instr.next (.pointer (some ⟨w.heap.size, 0, none⟩)) true ty).run Tryd.prog (w.iter s pos) = _ := fun ty => run_next_any w s pos ty hp
      have hWc := wrong_any s pos hp hs
      by_cases hwr : Rc1.wr (s.data.toList.drop pos) = true
      · rw [hwr] at hWc
        have HWC := Lib.hid hWc
        have HWR := Lib.hid hwr
        clear hWc hwr
        go_wp2_with (go_at_call 26; refine (HWC.out _).mono ?_; rintro e w1 ⟨rfl, rfl⟩)
        go_ret
        refine ⟨?_, below_iter _ _ _⟩
        unfold Rc1.valid
        rw [HA.out.bad (by rw [HL.out]; exact hp) _ Rc1.nwr_take (by rw [HWR.out]; rfl)]
        rfl
      · rw [Bool.not_eq_true] at hwr
        rw [hwr] at hWc
        have HWC := Lib.hid hWc
        have HWR := Lib.hid hwr
        clear hWc hwr
        go_wp2_with (go_at_call 26; refine (HWC.out _).mono ?_; rintro e w1 ⟨rfl, rfl⟩)
        go_roundw
        case rel =>
          refine ⟨_, m + 1, rfl, by rw [Rc1.decode_eq]; exact HA.out.step (by rw [HL.out]; exact hp), ?_⟩
          show _ = true
          rw [HA.out.all (by rw [HL.out]; exact hp) _ Rc1.nwr_take, hal.out, HWR.out]; rfl
        case measure =>
          have := Rc1.dec_pos _ (drop_ne hp)
          rw [← Rc1.decode_eq] at this
          simp; omega
    · have hnx : ∀ ty, (Instr.next (.pointer (some ⟨w.heap.size, 0, none⟩)) true ty).run Tryd.prog (w.iter s pos) = _ := fun ty => run_next_end w s pos ty hp
      go_wp2
      go_ret
      refine ⟨?_, below_iter _ _ _⟩
      have := HA.out.over (by rw [HL.out]; exact hp)
      have h2 := hal.out
      rw [this, List.take_length] at h2
      unfold Rc1.valid
      rw [h2]
      rfl

theorem right_long {l : List UInt8} (h : 24 < Rc1.count l) : Rc1.right l = false := by
  unfold Rc1.right
  rw [show decide (1 ≤ Rc1.count l ∧ Rc1.count l ≤ 24) = false from decide_eq_false (by omega)]; rfl

theorem right_bad {l : List UInt8} (h : (Rc1.cut l).all Rc1.okc = false) : Rc1.right l = false := by
  unfold Rc1.right
  rw [h]; simp

theorem get_bt (s : ByteArray) (k : Nat) (h : k < s.size) : Rc1.bt s.data.toList k = (s[k]'h).toNat := by
  have := bt_at s k h
  rw [Rc1.bt_drop] at this; exact this

theorem right_end {s : ByteArray} {m : Nat} (hm : m = Rc1.count s.data.toList) (h24 : m ≤ 24) (hal : (Rc1.cut s.data.toList).all Rc1.okc = true) (h0 : 0 < m) (hs : 0 < s.size) :
    Rc1.right s.data.toList = (((s[0]'hs).toNat : Int) != 32 && ((s[s.size - 1]'(by omega)).toNat : Int) != 32) := by
  unfold Rc1.right
  rw [← hm, hal, decide_eq_true (by omega), len_data, get_bt s 0 hs, get_bt s (s.size - 1) (by omega)]
  simp only [Bool.true_and]
  congr 1 <;> (rw [Bool.eq_iff_iff]; simp only [decide_eq_true_eq, bne_iff_ne, ne_eq]; omega)

set_option maxHeartbeats 1000000 in
theorem Right_any (s : ByteArray) (hs : s.size ≤ 1099511627776) (w : World) :
    Calls Tryd.prog 18 #[.string s] w fun e w' => e = .returned (.bool (Rc1.right s.data.toList)) ∧ Below w.heap.size w w' := by
  have HL := Lib.hid (len_data s)
  go_enter Tryd.func18, Tryd.ntmps18
  go_wp2
  go_loopw [3, 4, 5] (fun k _ _ w' => ∃ (pos m : Nat), w' = w.iter s pos ∧ k = .int .i64 m ∧ Rc1.At s.data.toList pos m ∧ m ≤ 24 ∧ Hid (((Rc1.cut s.data.toList).take m).all Rc1.okc = true)) (fun _ _ _ w' => s.size - w'.iterPos w.heap.size)
  case atStart => exact ⟨0, 0, rfl, rfl, Rc1.At.zero _, Nat.zero_le _, rfl⟩
  case round =>
    obtain ⟨pos, m, rfl, rfl, hA, h24, hal⟩ := hrel
    have hps := hA.1
    rw [HL.out] at hps
    have HA := Lib.hid hA
    clear hA
    by_cases hp : pos < s.size
    · have hnx : ∀ ty, (Instr.next (.pointer (some ⟨w.heap.size, 0, none⟩)) true ty).run Tryd.prog (w.iter s pos) = _ := fun ty => run_next_any w s pos ty hp
      have HWc := Lib.hid (wrong_any s pos hp hs)
      have HDE := Lib.hid (Rc1.decode_eq s pos)
      have hlt : pos < s.data.toList.length := by rw [HL.out]; exact hp
      have bad : Rc1.okc (s.data.toList.drop pos) = false → Rc1.right s.data.toList = false := fun h => right_bad (HA.out.bad hlt _ Rc1.okc_take h)
      have BAD := Lib.hid bad
      have HLT := Lib.hid hlt
      clear bad hlt
      by_cases hc1 : m = 24
      · have HC1 := Lib.hid hc1
        have hc1' : decide (24 < (m : Int) + 1) = true := decide_eq_true (by omega)
        have hc1'' : 24 < (m : Int) + 1 := by omega
        clear hc1
        go_wp2
        go_ret
        rw [right_long (by have := HA.out.count_lt HLT.out; have := HC1.out; omega)]
        exact ⟨rfl, below_iter _ _ _⟩
      · have hc1' : decide (24 < (m : Int) + 1) = false := decide_eq_false (by omega)
        have hc1'' : (m : Int) + 1 ≤ 24 := by omega
        by_cases hc2 : (Utf8.decode s pos).1 < 32
        · have hc2' : decide (((Utf8.decode s pos).1 : Int) < 32) = true := decide_eq_true (by omega)
          have hc2'' : decide ((Utf8.decode s pos).1 < 32) = true := decide_eq_true (by omega)
          have HC2 := Lib.hid hc2
          clear hc2
          go_wp2
          go_ret
          rw [BAD.out (by unfold Rc1.okc; rw [← HDE.out, decide_eq_false (by have := HC2.out; omega)]; rfl)]
          exact ⟨rfl, below_iter _ _ _⟩
        · have hc2' : decide (((Utf8.decode s pos).1 : Int) < 32) = false := decide_eq_false (by omega)
          have hc2'' : decide ((Utf8.decode s pos).1 < 32) = false := decide_eq_false (by omega)
          by_cases hc3 : (Utf8.decode s pos).1 = 127
          · have hc3' : (((Utf8.decode s pos).1 : Int) == 127) = true := by rw [hc3]; rfl
            have HC3 := Lib.hid hc3
            clear hc3
            go_wp2
            go_ret
            rw [BAD.out (by unfold Rc1.okc; rw [← HDE.out, HC3.out]; rfl)]
            exact ⟨rfl, below_iter _ _ _⟩
          · have hc3' : (((Utf8.decode s pos).1 : Int) == 127) = false := by rw [beq_eq_false_iff_ne]; omega
            have HC3 := Lib.hid hc3
            clear hc3
            cases hwr : Rc1.wr (s.data.toList.drop pos) with
            | true =>
              have hWc := HWc.out
              rw [hwr] at hWc
              have HWC := Lib.hid hWc
              have HWR := Lib.hid hwr
              clear hWc hwr
              go_wp2_with (go_at_call 26; refine (HWC.out _).mono ?_; rintro e w1 ⟨rfl, rfl⟩)
              go_ret
              rw [BAD.out (by unfold Rc1.okc; rw [HWR.out]; simp)]
              exact ⟨rfl, below_iter _ _ _⟩
            | false =>
              have hWc := HWc.out
              rw [hwr] at hWc
              have HWC := Lib.hid hWc
              have HWR := Lib.hid hwr
              clear hWc hwr
              go_wp2_with (go_at_call 26; refine (HWC.out _).mono ?_; rintro e w1 ⟨rfl, rfl⟩)
              go_roundw
              case rel =>
                refine ⟨_, m + 1, rfl, by go_num, by rw [Rc1.decode_eq]; exact HA.out.step HLT.out, by omega, ?_⟩
                show _ = true
                rw [HA.out.all HLT.out _ Rc1.okc_take, hal.out]
                unfold Rc1.okc
                rw [HWR.out, ← HDE.out, decide_eq_true (by omega), decide_eq_false HC3.out]; rfl
              case measure =>
                have := Rc1.dec_pos _ (drop_ne hp)
                rw [← Rc1.decode_eq] at this
                simp; omega
    · have hnx : ∀ ty, (Instr.next (.pointer (some ⟨w.heap.size, 0, none⟩)) true ty).run Tryd.prog (w.iter s pos) = _ := fun ty => run_next_end w s pos ty hp
      have hmc := HA.out.over (by rw [HL.out]; exact hp)
      have h2 := hal.out
      rw [hmc, List.take_length] at h2
      have H2 := Lib.hid h2
      have HMC := Lib.hid hmc
      clear h2 hmc
      by_cases hm0 : m = 0
      · subst hm0
        go_wp2
        go_ret
        refine ⟨?_, below_iter _ _ _⟩
        unfold Rc1.right Rc1.count
        rw [← HMC.out]; rfl
      · have h0 : 0 < s.size := by have := HA.out.2.2.1; omega
        have hE := right_end (s := s) HMC.out h24 H2.out (by omega) h0
        have HE := Lib.hid hE
        have hm0' : 0 < (m : Int) := by omega
        clear hE
        cases h32 : (((s[0]'h0).toNat : Int) != 32) with
        | false =>
          go_wp2
          go_ret
          refine ⟨?_, below_iter _ _ _⟩
          rw [HE.out, h32]; rfl
        | true =>
          have hl1 : (1 : Int) ≤ s.size := by omega
          go_wp2
          go_ret
          refine ⟨?_, below_iter _ _ _⟩
          rw [HE.out, h32]; rfl

end Go.Proofs.YtghnjdbamenkgaaDoor
