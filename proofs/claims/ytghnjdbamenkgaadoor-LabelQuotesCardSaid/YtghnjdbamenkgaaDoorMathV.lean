/-
  Plain facts on the reference's way to read a quoted rune: a digit's worth, digits one by one, where the brace stands. No program is named here. Conditions: none.
-/
import Derived.Test.YtghnjdbamenkgaaDoorMathJ
namespace Go.Rc1

/-- What a small digit is worth; below 0: it is none. -/
def vl (c : Nat) : Int := if 48 ≤ c ∧ c ≤ 57 then (c : Int) - 48 else if 97 ≤ c ∧ c ≤ 102 then (c : Int) - 87 else -1

theorem vl_dg (n : Nat) (h : n < 16) : vl (dg n).toNat = n := by
  obtain rfl | rfl | rfl | rfl | rfl | rfl | rfl | rfl | rfl | rfl | rfl | rfl | rfl | rfl | rfl | rfl : n = 0 ∨ n = 1 ∨ n = 2 ∨ n = 3 ∨ n = 4 ∨ n = 5 ∨ n = 6 ∨ n = 7 ∨ n = 8 ∨ n = 9 ∨ n = 10 ∨ n = 11 ∨ n = 12 ∨ n = 13 ∨ n = 14 ∨ n = 15 := by omega
  all_goals decide

theorem dg_low (c : Nat) (h : 48 ≤ c ∧ c ≤ 57) : (dg (c - 48)).toNat = c := by
  obtain rfl | rfl | rfl | rfl | rfl | rfl | rfl | rfl | rfl | rfl : c = 48 ∨ c = 49 ∨ c = 50 ∨ c = 51 ∨ c = 52 ∨ c = 53 ∨ c = 54 ∨ c = 55 ∨ c = 56 ∨ c = 57 := by omega
  all_goals rfl
theorem dg_let (c : Nat) (h : 97 ≤ c ∧ c ≤ 102) : (dg (c - 87)).toNat = c := by
  obtain rfl | rfl | rfl | rfl | rfl | rfl : c = 97 ∨ c = 98 ∨ c = 99 ∨ c = 100 ∨ c = 101 ∨ c = 102 := by omega
  all_goals rfl

theorem vl_none (c : Nat) (h : ∀ k, k < 16 → (dg k).toNat ≠ c) : vl c = -1 := by
  unfold vl
  by_cases h1 : 48 ≤ c ∧ c ≤ 57
  · exact absurd (dg_low c h1) (h _ (by omega))
  · rw [if_neg h1]
    by_cases h2 : 97 ≤ c ∧ c ≤ 102
    · exact absurd (dg_let c h2) (h _ (by omega))
    · rw [if_neg h2]

theorem vl_range (c : Nat) : vl c = -1 ∨ (0 ≤ vl c ∧ vl c < 16) := by
  unfold vl
  repeat' split
  all_goals omega

theorem vl_digit (b : UInt8) (h : (48 ≤ b.toNat ∧ b.toNat ≤ 57) ∨ (97 ≤ b.toNat ∧ b.toNat ≤ 102)) : 0 ≤ vl b.toNat := by
  unfold vl
  repeat' split
  all_goals omega

/-- The number that digits say, one by one. -/
def hv (l : List UInt8) : Int := l.foldl (fun a b => 16 * a + vl b.toNat) 0

theorem hv_snoc (l : List UInt8) (b : UInt8) : hv (l ++ [b]) = 16 * hv l + vl b.toNat := by simp [hv]

theorem hv_hexL : ∀ (f n : Nat), n < f → hv (hexL n) = n
  | 0, n, h => by omega
  | f + 1, n, h => by
    by_cases h16 : n < 16
    · rw [hexL_low n h16]
      have := vl_dg n h16
      simp [hv, this]
    · rw [hexL_high n (by omega), hv_snoc, hv_hexL f (n / 16) (by omega), vl_dg (n % 16) (by omega)]
      omega

/-- What is known while the digits of a quoted rune are read. -/
def Dg (l : List UInt8) (k : Nat) (acc : Int) : Prop := ∀ r rest, scalar r → l = [92, 123] ++ hexL r ++ [125] ++ rest → k ≤ (hexL r).length + 2 ∧ hv ((hexL r).take (k - 2)) = acc

theorem brace_at (l : List UInt8) (r : Nat) (rest : List UInt8) (h : l = [92, 123] ++ hexL r ++ [125] ++ rest) : l[(hexL r).length + 2]? = some 125 := by
  have hlen : ([92, 123] ++ hexL r : List UInt8).length = (hexL r).length + 2 := by simp
  rw [h, List.append_assoc, List.getElem?_append_right (by rw [hlen]; exact Nat.le_refl _), hlen]; simp

theorem digit_at (l : List UInt8) (r : Nat) (rest : List UInt8) (h : l = [92, 123] ++ hexL r ++ [125] ++ rest) (k : Nat) (h2 : 2 ≤ k) (hk : k < (hexL r).length + 2) : l[k]? = (hexL r)[k - 2]? := by
  have hlen : ([92, 123] ++ hexL r : List UInt8).length = (hexL r).length + 2 := by simp
  rw [h, List.append_assoc, List.getElem?_append_left (by rw [hlen]; exact hk), List.getElem?_append_right (by simpa using h2)]
  rfl

theorem Dg.start (l : List UInt8) : Dg l 2 0 := fun r rest _ _ => ⟨by omega, rfl⟩

/-- A digit more. -/
theorem Dg.step {l : List UInt8} {k : Nat} {acc : Int} {c : UInt8} (h : Dg l k acc) (h2 : 2 ≤ k) (hc : l[k]? = some c) (hv0 : 0 ≤ vl c.toNat) : Dg l (k + 1) (16 * acc + vl c.toNat) := by
  intro r rest hr hl
  obtain ⟨h3, h4⟩ := h r rest hr hl
  have hlt : k < (hexL r).length + 2 := by
    rcases Nat.lt_or_ge k ((hexL r).length + 2) with h5 | h5
    · exact h5
    · have hb := brace_at l r rest hl
      rw [show (hexL r).length + 2 = k by omega, hc] at hb
      rw [Option.some.inj hb] at hv0
      exact absurd hv0 (by decide)
  have hd := digit_at l r rest hl k h2 hlt
  rw [hc] at hd
  obtain ⟨hi, e⟩ := List.getElem?_eq_some_iff.1 hd.symm
  refine ⟨by omega, ?_⟩
  rw [show k + 1 - 2 = (k - 2) + 1 by omega, List.take_succ_eq_append_getElem hi, hv_snoc, h4, e]

/-- The brace: all digits are read. -/
theorem Dg.brace {l : List UInt8} {k : Nat} {acc : Int} (h : Dg l k acc) (h2 : 2 ≤ k) (hc : l[k]? = some 125) : ∀ r rest, scalar r → l = [92, 123] ++ hexL r ++ [125] ++ rest → acc = r ∧ k + 1 = (hexL r).length + 3 := by
  intro r rest hr hl
  obtain ⟨h3, h4⟩ := h r rest hr hl
  have : k = (hexL r).length + 2 := by
    rcases Nat.lt_or_ge k ((hexL r).length + 2) with h5 | h5
    · have hd := digit_at l r rest hl k h2 h5
      rw [hc] at hd
      exact absurd (List.mem_of_getElem? hd.symm) (no125 r)
    · omega
  refine ⟨?_, by omega⟩
  rw [← h4, List.take_of_length_le (by omega), hv_hexL (r + 1) r (by omega)]

/-- No digit, and no brace that closes: it is no quoted rune. -/
theorem Dg.none {l : List UInt8} {k : Nat} {acc : Int} {c : UInt8} (h : Dg l k acc) (h2 : 2 ≤ k) (hc : l[k]? = some c) (hn : vl c.toNat < 0) (hb : c = 125 → ¬ (2 < k ∧ acc ≤ 1114111)) : ¬ ∃ r rest, scalar r ∧ l = [92, 123] ++ hexL r ++ [125] ++ rest := by
  rintro ⟨r, rest, hr, hl⟩
  obtain ⟨h3, h4⟩ := h r rest hr hl
  rcases Nat.lt_or_ge k ((hexL r).length + 2) with h5 | h5
  · have hd := digit_at l r rest hl k h2 h5
    rw [hc] at hd
    have := vl_digit c (hexL_dig r c (List.mem_of_getElem? hd.symm))
    omega
  · have hk : k = (hexL r).length + 2 := by omega
    have hbr := brace_at l r rest hl
    rw [← hk, hc] at hbr
    have hc125 := Option.some.inj hbr
    subst hc125
    have := h.brace h2 hc r rest hr hl
    refine hb rfl ⟨?_, ?_⟩
    · have := List.length_pos_iff.2 (hexL_ne r)
      omega
    · unfold scalar at hr; omega

theorem Dg.over {l : List UInt8} {k : Nat} {acc : Int} (h : Dg l k acc) (hk : l.length ≤ k ∨ 9 ≤ k) : ¬ ∃ r rest, scalar r ∧ l = [92, 123] ++ hexL r ++ [125] ++ rest := by
  rintro ⟨r, rest, hr, hl⟩
  obtain ⟨h3, -⟩ := h r rest hr hl
  have hb := brace_at l r rest hl
  have hlt := (List.getElem?_eq_some_iff.1 hb).1
  have := hexL_len8 r (by unfold scalar at hr; omega)
  omega

theorem enc_len (n : Nat) : 1 ≤ (enc n).length ∧ (enc n).length ≤ 4 := by
  unfold enc
  repeat' split
  all_goals simp

def MkO (l p : List UInt8) (k : Nat) : Prop := (∀ c rest, c ≠ 92 → l = c :: rest → p = [c] ∧ k = 1) ∧ Mk l p k

end Go.Rc1
