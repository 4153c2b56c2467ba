/-
  Numbers as bytes, the lowest first: plain mathematics of what bytes say and of a number's lowest bytes. Conditions: none.
-/
import Derived.WalkKit
namespace Go.Rc2

def say : List UInt8 → Nat
  | [] => 0
  | b :: r => b.toNat + 256 * say r

def get (l : List UInt8) : Nat := say (l.take 8)

def put : Nat → Nat → List UInt8
  | 0, _ => []
  | k + 1, n => UInt8.ofNat n :: put k (n / 256)

theorem say_lt (l : List UInt8) : say l < 256 ^ l.length := by
  induction l with
  | nil => decide
  | cons b r ih =>
    have := b.toNat_lt
    simp only [say, List.length_cons, Nat.pow_succ]
    omega

theorem get_lt (l : List UInt8) : get l < 18446744073709551616 := by
  have h := say_lt (l.take 8)
  have h2 : 256 ^ (l.take 8).length ≤ 256 ^ 8 := Nat.pow_le_pow_right (by decide) (by simp; omega)
  have h3 : (256 : Nat) ^ 8 = 18446744073709551616 := by decide
  unfold get
  omega

theorem say_append (l r : List UInt8) : say (l ++ r) = say l + 256 ^ l.length * say r := by
  induction l with
  | nil => simp [say]
  | cons b l ih =>
    simp only [List.cons_append, say, ih, List.length_cons, Nat.pow_succ, Nat.mul_add]
    rw [Nat.mul_comm (256 ^ l.length) 256, Nat.mul_assoc]
    omega

theorem put_length (k n : Nat) : (put k n).length = k := by
  induction k generalizing n with
  | zero => rfl
  | succ k ih => simp [put, ih]

theorem say_put (k n : Nat) : say (put k n) = n % 256 ^ k := by
  induction k generalizing n with
  | zero => simp [put, say, Nat.mod_one]
  | succ k ih =>
    simp only [put, say, ih]
    rw [Nat.pow_succ', Nat.mod_mul]
    simp

theorem put_take (j k n : Nat) (h : j ≤ k) : (put k n).take j = put j n := by
  induction k generalizing n j with
  | zero => obtain rfl : j = 0 := by omega
            rfl
  | succ k ih =>
    match j, h with
    | 0, _ => rfl
    | j + 1, h => simp [put, ih j (n / 256) (by omega)]

theorem put_get (k n j : Nat) (h : j < k) : (put k n)[j]? = some (UInt8.ofNat (n / 256 ^ j)) := by
  induction k generalizing n j with
  | zero => omega
  | succ k ih =>
    match j with
    | 0 => simp [put]
    | j + 1 =>
      simp only [put, List.getElem?_cons_succ]
      rw [ih (n / 256) j (by omega), Nat.div_div_eq_div_mul, Nat.pow_succ']

theorem put_snoc (k n : Nat) : put (k + 1) n = put k n ++ [UInt8.ofNat (n / 256 ^ k)] := by
  induction k generalizing n with
  | zero => simp [put]
  | succ k ih =>
    rw [put, ih (n / 256)]
    simp only [put, List.cons_append, Nat.div_div_eq_div_mul, Nat.pow_succ']

theorem get_put (k n : Nat) (h : k ≤ 8) : get (put k n) = n % 256 ^ k := by
  unfold get
  rw [List.take_of_length_le (by rw [put_length]; exact h), say_put]

theorem get_put_append (n : Nat) (h : n < 18446744073709551616) (s : List UInt8) : get (put 8 n ++ s) = n := by
  unfold get
  rw [List.take_append_of_le_length (by rw [put_length]; exact Nat.le_refl _), List.take_of_length_le (by rw [put_length]; exact Nat.le_refl _), say_put]
  exact Nat.mod_eq_of_lt h

theorem put_mod (k n : Nat) : put k (n % 256 ^ k) = put k n := by
  induction k generalizing n with
  | zero => rfl
  | succ k ih =>
    simp only [put]
    congr 1
    · apply UInt8.toNat_inj.1
      simp only [UInt8.toNat_ofNat']
      rw [Nat.pow_succ', Nat.mod_mul_right_mod]
    · rw [← ih (n / 256), Nat.pow_succ', Nat.mod_mul_right_div_self]

theorem put_say (l : List UInt8) : put l.length (say l) = l := by
  induction l with
  | nil => rfl
  | cons b r ih =>
    have hb := b.toNat_lt
    simp only [List.length_cons, put, say]
    congr 1
    · apply UInt8.toNat_inj.1
      simp only [UInt8.toNat_ofNat']
      omega
    · have : (b.toNat + 256 * say r) / 256 = say r := by omega
      rw [this, ih]

end Go.Rc2
