/-
  What le.Get answers: what the first eight bytes say. Condition: the text has at most as many bytes as a text may have.
-/
import Derived.Test.YtnknojkihjpjkaaLeMath
import Derived.Test.YtnknojkihjpjkaaChecked
import Derived.WalkKit
import Derived.WalkSpells
import Derived.Below
import Derived.Lib.Hide
import Derived.Laws.Bits64b
namespace Go.Proofs.Ytnknojkihjpjkaa
open Go.RowKit

theorem take_next (s : ByteArray) (k : Nat) (h : k < s.size) : s.data.toList.take (k + 1) = s.data.toList.take k ++ [s[k]] := by
  have hl : k < s.data.toList.length := by simpa using h
  rw [List.take_succ_eq_append_getElem hl]
  rfl

theorem pow_le8 (k : Nat) (h8 : k < 8) : 256 ^ k * 256 ≤ 18446744073709551616 := by
  have h : 256 ^ (k + 1) ≤ 256 ^ 8 := Nat.pow_le_pow_right (by decide) (by omega)
  have h3 : (256 : Nat) ^ 8 = 18446744073709551616 := by decide
  rw [← Nat.pow_succ]
  omega

theorem say_take_lt (s : ByteArray) (k : Nat) (h : k ≤ s.size) : Rc2.say (s.data.toList.take k) < 256 ^ k := by
  have h1 := Rc2.say_lt (s.data.toList.take k)
  have hl : (s.data.toList.take k).length = k := by simp; omega
  rw [hl] at h1
  exact h1

theorem or_step (s : ByteArray) (k : Nat) (h : k < s.size) (h8 : k < 8) :
    bits BinOp.or IntKind.u64 (Rc2.say (s.data.toList.take k) : Int) (IntKind.u64.wrap (IntKind.u64.wrap (s[k].toNat : Int) * 2 ^ (8 * k))) = ((Rc2.say (s.data.toList.take (k + 1)) : Nat) : Int) := by
  have h1 := say_take_lt s k (by omega)
  have hl : (s.data.toList.take k).length = k := by simp; omega
  have hb := s[k].toNat_lt
  have hp := pow_le8 k h8
  have e : (IntKind.u64.wrap (IntKind.u64.wrap (s[k].toNat : Int) * 2 ^ (8 * k))) = ((s[k].toNat * 256 ^ k : Nat) : Int) := by
    have h2 : (2 : Int) ^ (8 * k) = ((256 ^ k : Nat) : Int) := by
      rw [Int.pow_mul]
      norm_cast
    have hm : s[k].toNat * 256 ^ k ≤ 255 * 256 ^ k := Nat.mul_le_mul_right _ (by omega)
    rw [h2, IntKind.wrap_u64, IntKind.wrap_u64]
    have : (s[k].toNat : Int) % 18446744073709551616 = s[k].toNat := by omega
    rw [this, ← Int.natCast_mul]
    omega
  have hm : s[k].toNat * 256 ^ k ≤ 255 * 256 ^ k := Nat.mul_le_mul_right _ (by omega)
  rw [e, bits_or_u64_nat _ _ (by omega) (by omega), take_next s k h, Rc2.say_append, hl]
  congr 1
  rw [Nat.or_comm]
  have e2 : (256 : Nat) ^ k = 2 ^ (8 * k) := by rw [Nat.pow_mul]
  rw [e2] at h1 ⊢
  have := Nat.shiftLeft_add_eq_or_of_lt h1 s[k].toNat
  rw [Nat.shiftLeft_eq] at this
  rw [← this]
  simp only [Rc2.say, Nat.mul_zero, Nat.add_zero]
  rw [Nat.mul_comm (2 ^ (8 * k)), Nat.add_comm]

theorem get_all (s : ByteArray) (k : Nat) (h : k = min s.size 8) : Rc2.say (s.data.toList.take k) = Rc2.get s.data.toList := by
  unfold Rc2.get
  by_cases h8 : 8 ≤ s.size
  · rw [show k = 8 by omega]
  · rw [List.take_of_length_le (by simp; omega), List.take_of_length_le (by simp; omega)]

set_option maxHeartbeats 1000000 in
theorem Get_any (s : ByteArray) (hs : s.size ≤ maxLen) (w : World) :
    Calls Try.prog 54 #[.string s] w fun e w' => e = .returned (.int .u64 (Rc2.get s.data.toList)) ∧ w = w' := by
  have HS := Lib.hid hs
  clear hs
  by_cases h8 : (s.size : Int) ≤ 8
  · go_enter Try.func54, Try.ntmps54
    go_wp2
    go_loop [3, 8] (fun n i => ∃ k : Nat, n = .int .u64 (Rc2.say (s.data.toList.take k)) ∧ i = .int .i64 k ∧ k ≤ s.size) (fun _ i => (s.size - intOf i).toNat)
    case atStart => exact ⟨0, rfl, rfl, by omega⟩
    case round =>
      obtain ⟨k, rfl, rfl, hk⟩ := hrel
      by_cases hlt : k < s.size
      · have hi : (k : Int) < s.size := by omega
        have ho := or_step s k (by omega) (by omega)
        go_wp2
        go_round
        case rel => exact ⟨k + 1, rfl, by go_num, by omega⟩
        case measure => simp [intOf]; omega
      · have HE := Lib.hid (get_all s k (by omega))
        go_wp2
        go_ret
        rw [HE.out]
        exact ⟨rfl, rfl⟩
  · go_enter Try.func54, Try.ntmps54
    go_wp2
    go_loop [3, 8] (fun n i => ∃ k : Nat, n = .int .u64 (Rc2.say (s.data.toList.take k)) ∧ i = .int .i64 k ∧ k ≤ 8) (fun _ i => (8 - intOf i).toNat)
    case atStart => exact ⟨0, rfl, rfl, by omega⟩
    case round =>
      obtain ⟨k, rfl, rfl, hk⟩ := hrel
      by_cases hlt : k < 8
      · have hi : (k : Int) < s.size := by omega
        have ho := or_step s k (by omega) (by omega)
        go_wp2
        go_round
        case rel => exact ⟨k + 1, rfl, by go_num, by omega⟩
        case measure => simp [intOf]; omega
      · have HE := Lib.hid (get_all s k (by omega))
        go_wp2
        go_ret
        rw [HE.out]
        exact ⟨rfl, rfl⟩

end Go.Proofs.Ytnknojkihjpjkaa
