/-
  What the document's own Sum, Put and Take answer: the check sum by bits. Condition: the text has at most as many bytes as a text may have.
-/
import Derived.Test.YteellffkjjllgaaGreatQHePut
import Derived.Test.YteellffkjjllgaaGreatQLePutR
namespace Go.Proofs.YteellffkjjllgaaGreat
open Go.RowKit

theorem beq_list {a b : ByteArray} (h : a ≠ b) : (a.toList == b.toList) = false := by
  rw [beq_eq_false_iff_ne, ByteArray.toList_eq, ByteArray.toList_eq]
  intro e
  exact h (ByteArray.ext (Array.ext' e))

def Inner (y c q z d : Nat) : Prop := z ^^^ d = Rc3.it q (y ^^^ c) ∧ z < 4294967296 ∧ d = c / 2 ^ q ∧ d < 256

theorem Inner.even {y c q z d : Nat} (h : Inner y c q z d) (hm : (z ^^^ d) % 2 = 0) : Inner y c (q + 1) (z / 2) (d / 2) := by
  obtain ⟨h1, h2, h3, h4⟩ := h
  refine ⟨?_, by omega, ?_, by omega⟩
  · rw [it_snoc, ← h1, ← Rc3.xor_half]
    unfold Rc3.s0
    rw [if_neg (by omega)]
  · rw [h3, Nat.div_div_eq_div_mul, Nat.pow_succ]

theorem Inner.odd {y c q z d : Nat} (h : Inner y c q z d) (hm : (z ^^^ d) % 2 = 1) : Inner y c (q + 1) (z / 2 ^^^ 3988292384) (d / 2) := by
  obtain ⟨h1, h2, h3, h4⟩ := h
  refine ⟨?_, Nat.xor_lt_two_pow (n := 32) (by omega) (by decide), ?_, by omega⟩
  · rw [it_snoc, ← h1]
    unfold Rc3.s0
    rw [if_pos hm, Rc3.xor_half, Nat.xor_assoc, Nat.xor_assoc, Nat.xor_comm 3988292384]
  · rw [h3, Nat.div_div_eq_div_mul, Nat.pow_succ]

theorem Inner.done {y c z d : Nat} (h : Inner y c 8 z d) (hc : c < 256) : z = Rc3.it 8 (y ^^^ c) := by
  obtain ⟨h1, _, h3, _⟩ := h
  have : d = 0 := by rw [h3]; omega
  rw [← h1, this, Nat.xor_zero]

theorem sum_endR (s : ByteArray) (y : Nat) (h : y = Rc3.reg 4294967295 (s.data.toList.take s.size)) (hy : y < 4294967296) : bits BinOp.xor IntKind.u32 (y : Int) 4294967295 = ((Rc3.crc s.data.toList : Nat) : Int) := by
  have e := u32_xor_nat y 4294967295 hy (by decide)
  rw [h, List.take_of_length_le (by simp)] at e
  rw [h, List.take_of_length_le (by simp)]
  exact e

set_option maxHeartbeats 1000000 in
theorem SumR_any (s : ByteArray) (hs : s.size ≤ maxLen) (w : World) :
    Calls Tryz.prog 42 #[.string s] w fun e w' => e = .returned (.int .u32 ((Rc3.crc s.data.toList : Nat) : Int)) ∧ w = w' := by
  have HS := Lib.hid hs
  unfold maxLen at hs
  go_enter Tryz.func42, Tryz.ntmps42
  go_wp2
  go_loop [3, 4] (fun r i => ∃ k y : Nat, k ≤ s.size ∧ Hid (y = Rc3.reg 4294967295 (s.data.toList.take k) ∧ y < 4294967296) ∧ r = .int .u32 (y : Int) ∧ i = .int .i64 k) (fun _ i => (s.size - intOf i).toNat)
  case atStart => exact ⟨0, 4294967295, by omega, ⟨rfl, by decide⟩, rfl, rfl⟩
  case round =>
    obtain ⟨k, y, hk, hy, rfl, rfl⟩ := hrel
    by_cases hlt : k < s.size
    · have hi : (k : Int) < s.size := by omega
      have hbyte := s[k].toNat_lt
      have HBY := Lib.hid hbyte
      have HN := Lib.hid (reg_next s k hlt)
      go_wp2
      clear hbyte
      generalize s[k].toNat = c at HN HBY ⊢
      go_loop [3, 5, 6] (fun r cc i => ∃ q z d : Nat, q ≤ 8 ∧ Hid (Inner y c q z d) ∧ r = .int .u32 (z : Int) ∧ cc = .int .u32 (d : Int) ∧ i = .int .i64 q) (fun _ _ i => (8 - intOf i).toNat)
      case atStart => exact ⟨0, y, c, by omega, ⟨rfl, hy.out.2, by simp, HBY.out⟩, rfl, rfl, rfl⟩
      case round =>
        obtain ⟨q, z, d, hq, hI, rfl, rfl, rfl⟩ := hrel
        by_cases hq8 : q < 8
        · have hI' := hI.out
          have hd := hI'.2.2.2
          have hx := u32_xor_nat z d hI'.2.1 (by omega)
          have HL := Nat.xor_lt_two_pow (n := 32) (x := z) (y := d) hI'.2.1 (by omega)
          have ha := and1 (z ^^^ d) HL
          have hq : bits BinOp.xor IntKind.u32 ((z : Int) / 2 % 4294967296) 3988292384 = ((z / 2 ^^^ 3988292384 : Nat) : Int) := by
            have hz := hI'.2.1
            rw [show (z : Int) / 2 % 4294967296 = ((z / 2 : Nat) : Int) by omega]
            exact xorP (z / 2) (by omega)
          clear hI' HL hd
          rcases Nat.mod_two_eq_zero_or_one (z ^^^ d) with hm | hm <;> rw [hm] at ha
          · have HE := Lib.hid (hI.out.even hm)
            clear hm hq
            go_wp2
            go_round
            case rel =>
              have := hI.out.2.1
              have := hI.out.2.2.2
              exact ⟨q + 1, z / 2, d / 2, by omega, HE, by congr 1; omega, by congr 1; omega, by go_num⟩
            case measure => simp [intOf]; omega
          · have HE := Lib.hid (hI.out.odd hm)
            clear hm
            go_wp2
            go_round
            case rel =>
              have := hI.out.2.2.2
              exact ⟨q + 1, z / 2 ^^^ 3988292384, d / 2, by omega, HE, rfl, by congr 1; omega, by go_num⟩
            case measure => simp [intOf]; omega
        · obtain rfl : q = 8 := by omega
          go_wp2
          go_round
          case rel => exact ⟨k + 1, z, by omega, ⟨by rw [HN.out, ← hy.out.1]; exact hI.out.done HBY.out, hI.out.2.1⟩, rfl, by go_num⟩
          case measure => simp [intOf]; omega
    · obtain rfl : k = s.size := by omega
      go_wp2
      go_ret
      exact ⟨congrArg (fun z => Ending.returned (.int .u32 z)) (sum_endR s y hy.out.1 hy.out.2), rfl⟩

theorem PutR4 (n : Nat) (hn : n < 4294967296) (w : World) :
    Calls Tryz.prog 23 #[.int .u64 (n : Int), .int .i64 4] w fun e w' => e = .returned (.string ⟨(Rc2.put 4 n).toArray⟩) ∧ Below w.heap.size w w' :=
  PutR_core n (by omega) 4 4 (by decide) w

set_option maxHeartbeats 1000000 in
theorem PutR_seal (s : ByteArray) (hs : s.size + 4 ≤ maxLen) (w : World) :
    Calls Tryz.prog 24 #[.string s] w fun e w' => e = .returned (.string (sealedB s)) ∧ Below w.heap.size w w' := by
  have HS := Lib.hid (SumR_any s (by omega))
  have hp := PutR4 (Rc3.crc s.data.toList) (Rc3.crc_lt _)
  have hsz := size_put 4 (Rc3.crc s.data.toList)
  have hout := Lib.hid (show s ++ ByteArray.mk (Rc2.put 4 (Rc3.crc s.data.toList)).toArray = sealedB s from rfl)
  have hadd : (9223372036854775807 < s.size + 4) = False := by
    unfold maxLen at hs
    exact eq_false (by omega)
  generalize ByteArray.mk (Rc2.put 4 (Rc3.crc s.data.toList)).toArray = P at hp hsz hout
  have HP := Lib.hid hp
  have hw := wrap_crc s.data.toList
  clear hs hp
  go_enter Tryz.func24, Tryz.ntmps24
  go_wp2_with (first | (go_at_call 42; ((with_reducible refine (HS.out _).mono ?_)); rintro e w1 ⟨rfl, rfl⟩) | (go_at_call 23; ((with_reducible refine (HP.out _).mono ?_)); rintro e w1 ⟨rfl, hb2⟩))
  go_ret
  rw [← hout.out]
  exact ⟨rfl, hb2⟩

end Go.Proofs.YteellffkjjllgaaGreat
