/-
  The check sum by bits, as plain mathematics over natural numbers: one step, many steps, bytes, turned bits. Conditions: none.
-/
import Derived.Test.YtnknojkihjpjkaaLeMath
namespace Go.Rc3
open Go.Rc2 (say put)

/-- One step of the register, no bit coming in. -/
def s0 (x : Nat) : Nat := if x % 2 = 1 then x / 2 ^^^ 3988292384 else x / 2

def it : Nat → Nat → Nat
  | 0, x => x
  | k + 1, x => it k (s0 x)

/-- The register behind a text. -/
def reg (r : Nat) (l : List UInt8) : Nat := l.foldl (fun r c => it 8 (r ^^^ c.toNat)) r

def crc (l : List UInt8) : Nat := reg 4294967295 l ^^^ 4294967295

theorem xor_half (a b : Nat) : (a ^^^ b) / 2 = a / 2 ^^^ b / 2 := by
  have := Nat.shiftRight_xor_distrib (a := a) (b := b) (i := 1)
  simpa [Nat.shiftRight_eq_div_pow] using this

theorem xor_odd (a b : Nat) : (a ^^^ b) % 2 = (a % 2 + b % 2) % 2 := by
  have h := Nat.testBit_xor a b 0
  simp only [Nat.testBit_zero] at h
  rcases Nat.mod_two_eq_zero_or_one a with ha | ha <;> rcases Nat.mod_two_eq_zero_or_one b with hb | hb <;> rcases Nat.mod_two_eq_zero_or_one (a ^^^ b) with hc | hc <;> simp [ha, hb, hc] at h ⊢

theorem s0_xor (a b : Nat) : s0 (a ^^^ b) = s0 a ^^^ s0 b := by
  unfold s0
  have h := xor_odd a b
  rw [xor_half]
  rcases Nat.mod_two_eq_zero_or_one a with ha | ha <;> rcases Nat.mod_two_eq_zero_or_one b with hb | hb <;> rw [ha, hb] at h <;> simp [h, ha, hb]
  · rw [Nat.xor_assoc]
  · rw [Nat.xor_assoc, Nat.xor_comm (b / 2), Nat.xor_assoc]
  · rw [Nat.xor_assoc, ← Nat.xor_assoc 3988292384, Nat.xor_comm 3988292384, Nat.xor_assoc (b / 2), Nat.xor_self, Nat.xor_zero]

theorem it_xor (k a b : Nat) : it k (a ^^^ b) = it k a ^^^ it k b := by
  induction k generalizing a b with
  | zero => rfl
  | succ k ih => rw [it, it, it, s0_xor, ih]

theorem it_add (j k x : Nat) : it (j + k) x = it k (it j x) := by
  induction j generalizing x with
  | zero => simp [it]
  | succ j ih => rw [Nat.succ_add, it, it, ih]

theorem s0_double (x : Nat) : s0 (x * 2) = x := by
  unfold s0
  rw [if_neg (by omega)]
  omega

theorem it_shift (k x : Nat) : it k (x * 2 ^ k) = x := by
  induction k generalizing x with
  | zero => simp [it]
  | succ k ih => rw [it, Nat.pow_succ, ← Nat.mul_assoc, s0_double, ih]

theorem s0_lt (x : Nat) (h : x < 4294967296) : s0 x < 4294967296 := by
  unfold s0
  split
  · exact Nat.xor_lt_two_pow (n := 32) (by omega) (by omega)
  · omega

theorem s0_ne (x : Nat) (h : x < 4294967296) (h0 : x ≠ 0) : s0 x ≠ 0 := by
  unfold s0
  split
  · intro e
    have e2 : x / 2 = 3988292384 := by
      have := congrArg (fun y => y ^^^ 3988292384) e
      simp only [Nat.xor_assoc, Nat.xor_self, Nat.xor_zero, Nat.zero_xor] at this
      exact this
    omega
  · omega

theorem it_lt (k x : Nat) (h : x < 4294967296) : it k x < 4294967296 := by
  induction k generalizing x with
  | zero => exact h
  | succ k ih => exact ih _ (s0_lt x h)

theorem it_ne (k x : Nat) (h : x < 4294967296) (h0 : x ≠ 0) : it k x ≠ 0 := by
  induction k generalizing x with
  | zero => exact h0
  | succ k ih => exact ih _ (s0_lt x h) (s0_ne x h h0)

theorem it_zero (k : Nat) : it k 0 = 0 := by
  induction k with
  | zero => rfl
  | succ k ih => rw [it]; exact ih

theorem xor_eq_zero {a b : Nat} (h : a ^^^ b = 0) : a = b := by
  have := congrArg (fun y => y ^^^ b) h
  simpa [Nat.xor_assoc, Nat.xor_self] using this

theorem it_inj (k x y : Nat) (hx : x < 4294967296) (hy : y < 4294967296) (h : it k x = it k y) : x = y := by
  apply xor_eq_zero
  refine Classical.byContradiction fun h0 => it_ne k _ (Nat.xor_lt_two_pow (n := 32) hx hy) h0 ?_
  rw [it_xor, h, Nat.xor_self]

/-- A byte below, the rest above. -/
theorem low_high (a b : Nat) (h : a < 256) : a + 256 * b = a ^^^ (b * 2 ^ 8) := by
  have := Nat.shiftLeft_add_eq_or_of_lt (i := 8) (b := a) (by omega) b
  rw [Nat.shiftLeft_eq] at this
  have h2 : a ^^^ (b * 2 ^ 8) = b * 2 ^ 8 ||| a := by
    apply Nat.eq_of_testBit_eq
    intro i
    simp only [Nat.testBit_xor, Nat.testBit_or, Nat.testBit_mul_two_pow]
    by_cases hi : 8 ≤ i
    · have : a.testBit i = false := Nat.testBit_lt_two_pow (Nat.lt_of_lt_of_le h (by
        show 2 ^ 8 ≤ 2 ^ i
        exact Nat.pow_le_pow_right (by decide) hi))
      simp [this, hi]
    · simp [hi]
  rw [h2, ← this]
  omega

theorem reg_eq (r : Nat) (l : List UInt8) : reg r l = it (8 * l.length) (r ^^^ say l) := by
  induction l generalizing r with
  | nil => simp [reg, say, it]
  | cons c l ih =>
    have h := ih (it 8 (r ^^^ c.toNat))
    unfold reg at h ⊢
    rw [List.foldl_cons, h, say, low_high _ _ c.toNat_lt, ← Nat.xor_assoc, List.length_cons, show 8 * (l.length + 1) = 8 + 8 * l.length by omega, it_add, it_xor 8 (r ^^^ c.toNat), it_shift]

theorem reg_append (r : Nat) (l m : List UInt8) : reg r (l ++ m) = reg (reg r l) m := by
  unfold reg
  rw [List.foldl_append]

theorem reg_lt (r : Nat) (h : r < 4294967296) (l : List UInt8) : reg r l < 4294967296 := by
  induction l generalizing r with
  | nil => exact h
  | cons c l ih =>
    have hc := c.toNat_lt
    exact ih _ (it_lt 8 _ (Nat.xor_lt_two_pow (n := 32) h (by omega)))

theorem crc_lt (l : List UInt8) : crc l < 4294967296 := Nat.xor_lt_two_pow (n := 32) (reg_lt _ (by omega) l) (by omega)

theorem say_put4 (n : Nat) (h : n < 4294967296) : say (put 4 n) = n := by
  rw [Rc2.say_put]
  exact Nat.mod_eq_of_lt h

theorem say_lt4 (m : List UInt8) (h : m.length = 4) : say m < 4294967296 := by
  have := Rc2.say_lt m
  rw [h] at this
  exact this

theorem xor_swap (a b c : Nat) : a ^^^ b = c ↔ b = a ^^^ c := by
  constructor
  · intro h; rw [← h, ← Nat.xor_assoc, Nat.xor_self, Nat.zero_xor]
  · intro h; rw [h, ← Nat.xor_assoc, Nat.xor_self, Nat.zero_xor]

/-- Four bytes behind a text are its sum just if the register behind all is this one. -/
theorem sealed_iff (l m : List UInt8) (h : m.length = 4) : reg 4294967295 (l ++ m) = it 32 4294967295 ↔ m = put 4 (crc l) := by
  rw [reg_append, reg_eq (reg 4294967295 l) m, h]
  have hr := reg_lt 4294967295 (by omega) l
  have hm := say_lt4 m h
  constructor
  · intro e
    have e1 := it_inj _ _ _ (Nat.xor_lt_two_pow (n := 32) hr hm) (by omega) e
    have e2 : say m = crc l := (xor_swap _ _ _).1 e1
    rw [← e2, ← h, Rc2.put_say]
  · intro e
    have e2 : say m = crc l := by rw [e]; exact say_put4 _ (crc_lt l)
    rw [e2, show reg 4294967295 l ^^^ crc l = 4294967295 from (xor_swap _ _ _).2 rfl]

/-- Bits turned within 32 beside one another. -/
theorem turned_ne (n at' w : Nat) (hw : w < 4294967296) (h0 : w ≠ 0) (ha : at' ≤ 8 * n) : it (8 * n) (w * 2 ^ at') ≠ 0 := by
  rw [show 8 * n = at' + (8 * n - at') by omega, it_add, it_shift]
  exact it_ne _ _ hw h0

theorem reg_turned (r : Nat) (l m : List UInt8) (e : Nat) (hl : m.length = l.length) (h : say m = say l ^^^ e) : reg r m = reg r l ^^^ it (8 * l.length) e := by
  rw [reg_eq, reg_eq, hl, h, ← it_xor, Nat.xor_assoc]

theorem say_xor_low (a : UInt8) (l : List UInt8) (y : Nat) (h : y < 256) : say (UInt8.ofNat (a.toNat ^^^ y) :: l) = say (a :: l) ^^^ y := by
  have ha := a.toNat_lt
  have hx : a.toNat ^^^ y < 256 := Nat.xor_lt_two_pow (n := 8) (by omega) (by omega)
  have e : (UInt8.ofNat (a.toNat ^^^ y)).toNat = a.toNat ^^^ y := by rw [UInt8.toNat_ofNat']; exact Nat.mod_eq_of_lt hx
  simp only [say]
  rw [e, low_high _ _ hx, low_high _ _ ha, Nat.xor_assoc, Nat.xor_comm y, ← Nat.xor_assoc]

theorem say_cons_xor (a : UInt8) (l m : List UInt8) (e : Nat) (h : say m = say l ^^^ e) : say (a :: m) = say (a :: l) ^^^ e * 2 ^ 8 := by
  have ha := a.toNat_lt
  simp only [say]
  rw [h, low_high _ _ ha, low_high _ _ ha, Nat.xor_assoc]
  congr 1
  have := Nat.shiftLeft_xor_distrib (a := say l) (b := e) (i := 8)
  simpa [Nat.shiftLeft_eq] using this

/-- A bit of a byte turned, in a text. -/
theorem say_set (l : List UInt8) (i : Nat) (h : i < l.length) (y : Nat) (hy : y < 256) : say (l.set i (UInt8.ofNat ((l[i]'h).toNat ^^^ y))) = say l ^^^ y * 2 ^ (8 * i) := by
  induction l generalizing i with
  | nil => simp at h
  | cons a l ih =>
    match i, h with
    | 0, _ => simpa using say_xor_low a l y hy
    | i + 1, h =>
      have := ih i (by simpa using h)
      simp only [List.set_cons_succ, List.getElem_cons_succ]
      rw [say_cons_xor a l _ _ this, Nat.mul_assoc, ← Nat.pow_add, show 8 * i + 8 = 8 * (i + 1) by omega]

/-- Two texts of one length, bit by bit. -/
def zip (l m : List UInt8) : List UInt8 := List.zipWith (fun a b => a ^^^ b) l m

theorem reg_zip (r q : Nat) (l m : List UInt8) (h : l.length = m.length) : reg (r ^^^ q) (zip l m) = reg r l ^^^ reg q m := by
  induction l generalizing r q m with
  | nil =>
    match m, h with
    | [], _ => rfl
  | cons a l ih =>
    match m, h with
    | b :: m, h =>
      have h1 := ih (it 8 (r ^^^ a.toNat)) (it 8 (q ^^^ b.toNat)) m (by simpa using h)
      unfold reg zip at h1 ⊢
      simp only [List.zipWith_cons_cons, List.foldl_cons]
      rw [← h1, ← it_xor, UInt8.toNat_xor]
      congr 2
      rw [Nat.xor_assoc, Nat.xor_assoc]
      congr 1
      rw [← Nat.xor_assoc, ← Nat.xor_assoc, Nat.xor_comm q]

theorem zip_length (l m : List UInt8) (h : l.length = m.length) : (zip l m).length = l.length := by
  unfold zip
  rw [List.length_zipWith, h]
  exact Nat.min_self _

theorem crc_affine (a b c : List UInt8) (hb : a.length = b.length) (hc : a.length = c.length) : crc (zip (zip a b) c) = crc a ^^^ crc b ^^^ crc c := by
  have h1 := reg_zip 0 4294967295 (zip a b) c (by rw [zip_length a b hb, hc])
  have h2 := reg_zip 4294967295 4294967295 a b hb
  rw [Nat.xor_self] at h2
  rw [Nat.zero_xor, h2] at h1
  unfold crc
  rw [h1]
  generalize reg 4294967295 a = x
  generalize reg 4294967295 b = y
  generalize reg 4294967295 c = z
  apply Nat.eq_of_testBit_eq
  intro i
  simp only [Nat.testBit_xor]
  cases x.testBit i <;> cases y.testBit i <;> cases z.testBit i <;> cases (4294967295 : Nat).testBit i <;> rfl

/-- One byte more. -/
theorem crc_snoc (l : List UInt8) (c : UInt8) : crc (l ++ [c]) = it 8 (crc l ^^^ 4294967295 ^^^ c.toNat) ^^^ 4294967295 := by
  unfold crc
  rw [reg_append, Nat.xor_assoc (reg 4294967295 l), Nat.xor_self, Nat.xor_zero]
  rfl

/-- By a table: the low byte's, and the rest below. -/
theorem it_table (x : Nat) : it 8 x = it 8 (x % 256) ^^^ x / 256 := by
  have h : x = x % 256 ^^^ (x / 256) * 2 ^ 8 := by
    rw [← low_high _ _ (Nat.mod_lt _ (by decide))]
    omega
  have h2 := congrArg (it 8) h
  rw [it_xor, it_shift] at h2
  exact h2

end Go.Rc3
