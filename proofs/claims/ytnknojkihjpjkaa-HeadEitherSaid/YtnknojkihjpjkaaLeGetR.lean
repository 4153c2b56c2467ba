/-
  What the document's own Get answers: what the first eight bytes say. Condition: the text has at most as many bytes as a text may have.
-/
import Derived.Test.YtnknojkihjpjkaaLeGet
namespace Go.Proofs.Ytnknojkihjpjkaa
open Go.RowKit

theorem drop_next (l : List UInt8) (k : Nat) (h : k < l.length) : Rc2.say (l.drop k) = l[k].toNat + 256 * Rc2.say (l.drop (k + 1)) := by
  rw [List.drop_eq_getElem_cons h]
  rfl

theorem mul_step (s : ByteArray) (k q : Nat) (h : k < q) (hq : q ≤ s.size) (h8 : q ≤ 8) :
    IntKind.u64.wrap (IntKind.u64.wrap ((Rc2.say ((s.data.toList.take q).drop (k + 1)) : Nat) * 256 : Int) + IntKind.u64.wrap (s[k].toNat : Int)) = ((Rc2.say ((s.data.toList.take q).drop k) : Nat) : Int) := by
  have hl : (s.data.toList.take q).length = q := by simp; omega
  rw [drop_next _ k (by omega)]
  have e : (s.data.toList.take q)[k]'(by omega) = s[k] := by
    rw [List.getElem_take]
    rfl
  rw [e]
  have hb := s[k].toNat_lt
  have h1 := Rc2.say_lt ((s.data.toList.take q).drop (k + 1))
  have h2 : 256 ^ ((s.data.toList.take q).drop (k + 1)).length ≤ 256 ^ 7 := Nat.pow_le_pow_right (by decide) (by rw [List.length_drop]; omega)
  have h3 : (256 : Nat) ^ 7 = 72057594037927936 := by decide
  rw [IntKind.wrap_u64, IntKind.wrap_u64, IntKind.wrap_u64]
  omega

set_option maxHeartbeats 1000000 in
theorem GetR_any (s : ByteArray) (hs : s.size ≤ maxLen) (w : World) :
    Calls Try.prog 41 #[.string s] w fun e w' => e = .returned (.int .u64 (Rc2.get s.data.toList)) ∧ w = w' := by
  have HS := Lib.hid hs
  clear hs
  by_cases h8 : (s.size : Int) ≤ 8
  · go_enter Try.func41, Try.ntmps41
    go_wp2
    go_loop [3, 4] (fun n i => ∃ (k : Nat) (q : Int), n = .int .u64 (Rc2.say ((s.data.toList.take s.size).drop k)) ∧ i = .int .i64 q ∧ q = (k : Int) - 1 ∧ k ≤ s.size) (fun _ i => (intOf i + 1).toNat)
    case atStart => exact ⟨s.size, _, by rw [List.drop_of_length_le (by simp <;> omega)]; rfl, by go_num, by omega, by omega⟩
    case round =>
      obtain ⟨k, q, rfl, rfl, hq, hk⟩ := hrel
      by_cases hlt : 0 ≤ q
      · obtain ⟨j, rfl⟩ : ∃ j : Nat, q = j := ⟨q.toNat, by omega⟩
        obtain rfl : k = j + 1 := by omega
        have hi : (j : Int) < s.size := by omega
        have ho := mul_step s j s.size (by omega) (by omega) (by omega)
        clear hq
        go_wp2
        go_round
        case rel => exact ⟨j, _, rfl, rfl, by go_num, by omega⟩
        case measure => simp [intOf]
      · obtain rfl : k = 0 := by omega
        have HE := Lib.hid (get_all s s.size (by omega))
        clear hq
        go_wp2
        go_ret
        rw [HE.out]
        exact ⟨rfl, rfl⟩
  · go_enter Try.func41, Try.ntmps41
    go_wp2
    go_loop [3, 4] (fun n i => ∃ (k : Nat) (q : Int), n = .int .u64 (Rc2.say ((s.data.toList.take 8).drop k)) ∧ i = .int .i64 q ∧ q = (k : Int) - 1 ∧ k ≤ 8) (fun _ i => (intOf i + 1).toNat)
    case atStart => exact ⟨8, _, by rw [List.drop_of_length_le (by simp <;> omega)]; rfl, by go_num, by omega, by omega⟩
    case round =>
      obtain ⟨k, q, rfl, rfl, hq, hk⟩ := hrel
      by_cases hlt : 0 ≤ q
      · obtain ⟨j, rfl⟩ : ∃ j : Nat, q = j := ⟨q.toNat, by omega⟩
        obtain rfl : k = j + 1 := by omega
        have hi : (j : Int) < s.size := by omega
        have ho := mul_step s j 8 (by omega) (by omega) (by omega)
        clear hq
        go_wp2
        go_round
        case rel => exact ⟨j, _, rfl, rfl, by go_num, by omega⟩
        case measure => simp [intOf]
      · obtain rfl : k = 0 := by omega
        have HE := Lib.hid (get_all s 8 (by omega))
        clear hq
        go_wp2
        go_ret
        rw [HE.out]
        exact ⟨rfl, rfl⟩

end Go.Proofs.Ytnknojkihjpjkaa
