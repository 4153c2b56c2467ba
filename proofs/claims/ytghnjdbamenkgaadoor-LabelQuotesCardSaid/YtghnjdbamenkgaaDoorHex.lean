/-
  Plain facts on numbers in base 16, as lists of bytes. No program is named here. Conditions: none.
-/
import Derived.Test.YtghnjdbamenkgaaDoorMathA
namespace Go.Rc1

def dgs : List UInt8 := [48, 49, 50, 51, 52, 53, 54, 55, 56, 57, 97, 98, 99, 100, 101, 102]
/-- The digit of a number below 16. -/
def dg (n : Nat) : UInt8 := dgs.getD n 0

def hexF : Nat → Nat → List UInt8
  | 0, _ => []
  | f + 1, n => if n < 16 then [dg n] else hexF f (n / 16) ++ [dg (n % 16)]
def hexL (n : Nat) : List UInt8 := hexF (n + 1) n

theorem hexF_fuel : ∀ (f g n : Nat), n < f → n < g → hexF f n = hexF g n
  | 0, _, _, h, _ => by omega
  | _ + 1, 0, _, _, h => by omega
  | f + 1, g + 1, n, hf, hg => by
    unfold hexF
    split
    · rfl
    · rw [hexF_fuel f g (n / 16) (by omega) (by omega)]

theorem hexL_low (n : Nat) (h : n < 16) : hexL n = [dg n] := by simp [hexL, hexF, h]

theorem hexL_high (n : Nat) (h : 16 ≤ n) : hexL n = hexL (n / 16) ++ [dg (n % 16)] := by
  conv => lhs; unfold hexL hexF
  rw [if_neg (by omega), hexF_fuel n (n / 16 + 1) (n / 16) (by omega) (by omega)]
  rfl

theorem hexL_ne (n : Nat) : hexL n ≠ [] := by
  by_cases h : n < 16
  · rw [hexL_low n h]; simp
  · rw [hexL_high n (by omega)]; simp

/-- How long it is, by powers of 16. -/
theorem hexL_len : ∀ (k n : Nat), n < 16 ^ (k + 1) → (hexL n).length ≤ k + 1
  | 0, n, h => by rw [hexL_low n (by simpa using h)]; simp
  | k + 1, n, h => by
    by_cases h16 : n < 16
    · rw [hexL_low n h16]; simp
    · rw [hexL_high n (by omega), List.length_append]
      have := hexL_len k (n / 16) (by rw [Nat.pow_succ] at h; exact Nat.div_lt_of_lt_mul (by omega))
      simp; omega

end Go.Rc1
