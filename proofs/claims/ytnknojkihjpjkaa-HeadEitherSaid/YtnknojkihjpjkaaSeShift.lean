/-
  What seal.shifted answers: the register behind four steps. Condition: the register is below 2^32.
-/
import Derived.Test.YtnknojkihjpjkaaCrc
import Derived.Test.YtnknojkihjpjkaaChecked
import Derived.WalkKit
import Derived.WalkSpells
import Derived.Below
import Derived.Lib.Hide
import Derived.Laws.BitsAllLaws
namespace Go.Proofs.Ytnknojkihjpjkaa
open Go.RowKit

theorem and1 (x : Nat) (h : x < 4294967296) : bits BinOp.and IntKind.u32 (x : Int) 1 = ((x % 2 : Nat) : Int) := by
  have := u32_and_nat x 1 h (by decide)
  rw [nat_mask1] at this
  exact this

theorem xorP (x : Nat) (h : x < 4294967296) : bits BinOp.xor IntKind.u32 (x : Int) 3988292384 = ((x ^^^ 3988292384 : Nat) : Int) :=
  u32_xor_nat x 3988292384 h (by decide)

theorem it_snoc (k x : Nat) : Rc3.it (k + 1) x = Rc3.s0 (Rc3.it k x) := Rc3.it_add k 1 x

set_option maxHeartbeats 1000000 in
theorem shifted_any (x : Nat) (hx : x < 4294967296) (w : World) :
    Calls Try.prog 68 #[.int .u32 (x : Int)] w fun e w' => e = .returned (.int .u32 ((Rc3.it 4 x : Nat) : Int)) ∧ w = w' := by
  have HX := Lib.hid hx
  clear hx
  go_enter Try.func68, Try.ntmps68
  go_wp2
  go_loop [0, 4] (fun r i => ∃ k y : Nat, k ≤ 4 ∧ Hid (y = Rc3.it k x ∧ y < 4294967296) ∧ r = .int .u32 (y : Int) ∧ i = .int .i64 k) (fun _ i => (4 - intOf i).toNat)
  case atStart => exact ⟨0, x, by omega, ⟨rfl, HX.out⟩, rfl, rfl⟩
  case round =>
    obtain ⟨k, y, hk, hy, rfl, rfl⟩ := hrel
    by_cases hlt : k < 4
    · have ha := and1 y hy.out.2
      rcases Nat.mod_two_eq_zero_or_one y with hm | hm <;> rw [hm] at ha
      · have HM := Lib.hid hm
        clear hm
        go_wp2
        go_round
        case rel => exact ⟨k + 1, y / 2, by omega, ⟨by rw [it_snoc, ← hy.out.1]; unfold Rc3.s0; rw [if_neg (by have := HM.out; omega)], by have := hy.out; omega⟩, by go_num, by go_num⟩
        case measure => simp [intOf]; omega
      · have HM := Lib.hid hm
        clear hm
        have hq : bits BinOp.xor IntKind.u32 ((y : Int) / 2) 3988292384 = ((y / 2 ^^^ 3988292384 : Nat) : Int) := xorP (y / 2) (by have := hy.out; omega)
        go_wp2
        go_round
        case rel => exact ⟨k + 1, y / 2 ^^^ 3988292384, by omega, ⟨by rw [it_snoc, ← hy.out.1]; unfold Rc3.s0; rw [if_pos HM.out], Nat.xor_lt_two_pow (n := 32) (by have := hy.out; omega) (by decide)⟩, by go_num, by go_num⟩
        case measure => simp [intOf]; omega
    · obtain rfl : k = 4 := by omega
      go_wp2
      go_ret
      rw [hy.out.1]
      exact ⟨rfl, rfl⟩

end Go.Proofs.Ytnknojkihjpjkaa
