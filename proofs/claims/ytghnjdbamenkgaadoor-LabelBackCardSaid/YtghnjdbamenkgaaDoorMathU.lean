/-
  Plain facts on reading numbers in base 16, digit by digit, with a bound: what is read of the digits of a number is that number. No program is named here. Conditions: none.
-/
import Derived.Test.YtghnjdbamenkgaaDoorMathQ
namespace Go.Rc1

/-- What a byte is worth as a digit of base 16, large or small. -/
def dv (c : Nat) : Option Nat := if 48 ≤ c ∧ c ≤ 57 then some (c - 48) else if 97 ≤ c ||| 32 ∧ c ||| 32 ≤ 102 then some ((c ||| 32) - 87) else none

def hx (max : Nat) : Nat → List UInt8 → Option Nat
  | acc, [] => some acc
  | acc, c :: t => match dv c.toNat with
    | none => none
    | some d => if acc * 16 + d ≤ max then hx max (acc * 16 + d) t else none

theorem hx_digit {max acc d : Nat} {c : UInt8} {t : List UInt8} (h : dv c.toNat = some d) (hm : acc * 16 + d ≤ max) : hx max acc (c :: t) = hx max (acc * 16 + d) t := by
  simp [hx, h, hm]
theorem hx_range {max acc d : Nat} {c : UInt8} {t : List UInt8} (h : dv c.toNat = some d) (hm : ¬ acc * 16 + d ≤ max) : hx max acc (c :: t) = none := by
  simp [hx, h, hm]
theorem hx_none {max acc : Nat} {c : UInt8} {t : List UInt8} (h : dv c.toNat = none) : hx max acc (c :: t) = none := by
  simp [hx, h]

theorem dv_dg (n : Nat) (h : n < 16) : dv (dg n).toNat = some n := by
  obtain rfl | rfl | rfl | rfl | rfl | rfl | rfl | rfl | rfl | rfl | rfl | rfl | rfl | rfl | rfl | rfl : n = 0 ∨ n = 1 ∨ n = 2 ∨ n = 3 ∨ n = 4 ∨ n = 5 ∨ n = 6 ∨ n = 7 ∨ n = 8 ∨ n = 9 ∨ n = 10 ∨ n = 11 ∨ n = 12 ∨ n = 13 ∨ n = 14 ∨ n = 15 := by omega
  all_goals decide

theorem hx_append (max : Nat) : ∀ (l t : List UInt8) (acc v : Nat), hx max acc l = some v → hx max acc (l ++ t) = hx max v t
  | [], t, acc, v, h => by simp [hx] at h; simp [h]
  | c :: l, t, acc, v, h => by
    rw [List.cons_append]
    cases hd : dv c.toNat with
    | none => rw [hx_none hd] at h; cases h
    | some d =>
      by_cases hm : acc * 16 + d ≤ max
      · rw [hx_digit hd hm] at h ⊢
        exact hx_append max l t _ v h
      · rw [hx_range hd hm] at h; cases h

/-- The digits of a number are read as that number. -/
theorem hx_hexL (max : Nat) : ∀ (f n : Nat), n < f → n ≤ max → hx max 0 (hexL n) = some n
  | 0, n, h, _ => by omega
  | f + 1, n, h, hm => by
    by_cases h16 : n < 16
    · rw [hexL_low n h16, hx_digit (dv_dg n h16) (by omega)]
      simp [hx]
    · rw [hexL_high n (by omega), hx_append max _ _ 0 (n / 16) (hx_hexL max f (n / 16) (by omega) (by omega)), hx_digit (dv_dg (n % 16) (by omega)) (by omega)]
      simp [hx]; omega

theorem hx_hex (max n : Nat) (hm : n ≤ max) : hx max 0 (hexL n) = some n := hx_hexL max (n + 1) n (by omega) hm

end Go.Rc1
