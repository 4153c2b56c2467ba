/-
  Plain facts on quoted words, over lists of bytes: what a rune, a wrong byte and a text are quoted as. No program is named here. Conditions: none.
-/
import Derived.Test.YtghnjdbamenkgaaDoorHex
namespace Go.Rc1

/-- What a rune is quoted as. -/
def qr (r : Nat) : List UInt8 := if r = 92 then [92, 92] else if 33 ≤ r ∧ r ≤ 126 then [UInt8.ofNat r] else [92, 123] ++ hexL r ++ [125]
/-- What a list's first rune, or wrong byte, is quoted as. -/
def qc (c : List UInt8) : List UInt8 := if wr c then [92, 33] ++ hexL (bt c 0) else qr (dec c).1
def quoteF (l : List UInt8) : List UInt8 := (cut l).flatMap qc
def quote (l : List UInt8) : List UInt8 := if l = [] then [92, 95] else quoteF l

theorem wr_take (l : List UInt8) (h : l ≠ []) : wr (l.take (dec l).2) = wr l := by
  unfold wr; rw [dec_take l _ h (Nat.le_refl _)]

theorem qc_take (l : List UInt8) (h : l ≠ []) : qc (l.take (dec l).2) = qc l := by
  have hp := dec_pos l h
  unfold qc; rw [wr_take l h, dec_take l _ h (Nat.le_refl _), bt_take l _ 0 (by omega)]

theorem quoteF_nil : quoteF [] = [] := rfl
theorem quoteF_cons (l : List UInt8) (h : l ≠ []) : quoteF l = qc l ++ quoteF (l.drop (dec l).2) := by
  unfold quoteF
  rw [cut_cons l h, List.flatMap_cons, qc_take l h]

theorem hexL_len8 (n : Nat) (h : n < 16777216) : (hexL n).length ≤ 6 := hexL_len 5 n (by simpa using h)

theorem qr_len (r : Nat) (h : r ≤ 1114111) : (qr r).length ≤ 9 := by
  have := hexL_len8 r (by omega)
  unfold qr; repeat' split
  all_goals simp; try omega

theorem qc_len (l : List UInt8) (h : l ≠ []) : (qc l).length ≤ 9 := by
  have h1 := (dec_facts l h).2.2.2.1
  have h2 := hexL_len8 (bt l 0) (by have := bt_lt l 0; omega)
  unfold qc; split
  · simp; omega
  · exact qr_len _ h1

theorem quoteF_len : ∀ l, (quoteF l).length ≤ 9 * l.length := by
  apply cut_ind
  · simp [quoteF_nil]
  · intro l h ih
    have := qc_len l h; have := dec_pos l h; have := dec_le l h
    rw [quoteF_cons l h, List.length_append]
    simp at ih; omega

theorem isPrefix3 (l : List UInt8) : ([239, 191, 189] : List UInt8).isPrefixOf l = decide (2 < l.length ∧ bt l 0 = 239 ∧ bt l 1 = 191 ∧ bt l 2 = 189) := by
  have e : ∀ (a : UInt8) (n : Nat) (h : n < 256), (UInt8.ofNat n == a) = decide (a.toNat = n) := by
    intro a n h
    rw [Bool.eq_iff_iff]
    simp only [beq_iff_eq, decide_eq_true_eq]
    constructor
    · rintro rfl; simp [Nat.mod_eq_of_lt h]
    · intro h'; rw [← h']; simp
  match l with
  | [] => rfl
  | [a] => simp [List.isPrefixOf]
  | [a, b] => simp [List.isPrefixOf]
  | a :: b :: c :: t =>
    have e0 := e a 239 (by omega); have e1 := e b 191 (by omega); have e2 := e c 189 (by omega)
    have e0' : ((239 : UInt8) == a) = decide (a.toNat = 239) := e0
    have e1' : ((191 : UInt8) == b) = decide (b.toNat = 191) := e1
    have e2' : ((189 : UInt8) == c) = decide (c.toNat = 189) := e2
    simp [List.isPrefixOf, bt, e0', e1', e2']

/-- How the program tells a wrong byte. -/
theorem wr_eq (l : List UInt8) (_h : l ≠ []) : wr l = (decide ((dec l).1 = 65533) && !([239, 191, 189] : List UInt8).isPrefixOf l) := by
  rw [isPrefix3]
  have b0 := bt_lt l 0; have b1 := bt_lt l 1; have b2 := bt_lt l 2; have b3 := bt_lt l 3
  rw [Bool.eq_iff_iff]
  simp only [wr, decide_eq_true_eq, Bool.and_eq_true, Bool.not_eq_true', decide_eq_false_iff_not]
  rcases dec_cases l with ⟨h, e⟩ | ⟨h, e⟩ | ⟨h, e⟩ | ⟨h, e⟩ | ⟨h0, h2, h3, h4, e⟩
  · rw [e]; simp only [Prod.mk.injEq]; omega
  · rw [e]; simp only [Prod.mk.injEq]; unfold Q2 at h; omega
  · rw [e]; simp only [Prod.mk.injEq]; unfold Q3 at h; omega
  · rw [e]; simp only [Prod.mk.injEq]; unfold Q4 at h; omega
  · rw [e]
    refine ⟨fun _ => ⟨rfl, fun q => h3 ?_⟩, fun _ => rfl⟩
    unfold Q3; omega

/-- A wrong byte is 128 or more. -/
theorem wr_high (l : List UInt8) (h : wr l = true) : 128 ≤ bt l 0 ∧ (dec l).2 = 1 ∧ (dec l).1 = 65533 := by
  have e : dec l = (65533, 1) := by simpa [wr] using h
  refine ⟨?_, by rw [e], by rw [e]⟩
  rcases Nat.lt_or_ge (bt l 0) 128 with h' | h'
  · rw [dec_low l h'] at e
    simp only [Prod.mk.injEq] at e; omega
  · exact h'

end Go.Rc1
