/-
  Plain facts on the bytes of UTF-8, over lists of bytes: what a list begins with ('dec'), how it is cut into runes and wrong bytes ('cut'), and how the cutting goes over takes, drops and appends. No program is named here. Conditions: none.
-/
import Derived.Lib.DecodeN
import Derived.Lib.RuneCountTail
namespace Go.Rc1

def bt (l : List UInt8) (i : Nat) : Nat := (l.getD i 0).toNat

/-- What a list of bytes begins with: a rune and its width; of a wrong byte (65533, 1). -/
def dec (l : List UInt8) : Nat × Nat := Lib.decodeN l.length (bt l 0) (bt l 1) (bt l 2) (bt l 3)

theorem bt_lt (l : List UInt8) (i : Nat) : bt l i < 256 := UInt8.toNat_lt _

theorem bt_drop (l : List UInt8) (i k : Nat) : bt (l.drop i) k = bt l (i + k) := by
  simp [bt, List.getD_eq_getElem?_getD, List.getElem?_drop]

theorem bt_take (l : List UInt8) (n k : Nat) (h : k < n) : bt (l.take n) k = bt l k := by
  simp [bt, List.getD_eq_getElem?_getD, h]

theorem bt_append (l t : List UInt8) (k : Nat) (h : k < l.length) : bt (l ++ t) k = bt l k := by
  simp [bt, List.getD_eq_getElem?_getD, List.getElem?_append_left h]

theorem bt_zero_of_le (l : List UInt8) (k : Nat) (h : l.length ≤ k) : bt l k = 0 := by
  simp [bt, List.getD_eq_getElem?_getD, List.getElem?_eq_none h]

theorem decode_eq (s : ByteArray) (i : Nat) : Utf8.decode s i = dec (s.data.toList.drop i) := by
  rw [Lib.decode_at, dec, bt_drop, bt_drop, bt_drop, bt_drop]
  simp only [bt, Lib.getD_get!', List.length_drop, Nat.add_zero]
  rfl

/-- Of the width and the number, by the cases of the definition. -/
theorem dec_facts (l : List UInt8) (h : l ≠ []) : 1 ≤ (dec l).2 ∧ (dec l).2 ≤ 4 ∧ (dec l).2 ≤ l.length ∧ (dec l).1 ≤ 1114111 ∧ ((dec l).1 < 55296 ∨ 57344 ≤ (dec l).1) := by
  have hl : 0 < l.length := List.length_pos_iff.2 h
  have h0 := bt_lt l 0; have h1 := bt_lt l 1; have h2 := bt_lt l 2; have h3 := bt_lt l 3
  unfold dec Lib.decodeN
  generalize bt l 0 = b0 at *; generalize bt l 1 = b1 at *; generalize bt l 2 = b2 at *; generalize bt l 3 = b3 at *
  repeat' split
  all_goals (refine ⟨?_, ?_, ?_, ?_, ?_⟩ <;> dsimp only <;> omega)

theorem dec_pos (l : List UInt8) (h : l ≠ []) : 1 ≤ (dec l).2 := (dec_facts l h).1
theorem dec_le (l : List UInt8) (h : l ≠ []) : (dec l).2 ≤ l.length := (dec_facts l h).2.2.1

/-- A byte below 128 stands for itself. -/
theorem dec_low (l : List UInt8) (h : bt l 0 < 128) : dec l = (bt l 0, 1) := by
  simp [dec, Lib.decodeN, h]

theorem dec_high (l : List UInt8) (h : 128 ≤ bt l 0) : 128 ≤ (dec l).1 := by
  have h0 := bt_lt l 0
  unfold dec Lib.decodeN
  generalize bt l 0 = b0 at *; generalize bt l 1 = b1 at *; generalize bt l 2 = b2 at *; generalize bt l 3 = b3 at *
  repeat' split
  all_goals (dsimp only; omega)

def Q2 (n b0 b1 : Nat) : Prop := b0 / 32 = 6 ∧ 1 < n ∧ b1 / 64 = 2 ∧ 128 ≤ b0 % 32 * 64 + b1 % 64
def Q3 (n b0 b1 b2 : Nat) : Prop := b0 / 16 = 14 ∧ 2 < n ∧ b1 / 64 = 2 ∧ b2 / 64 = 2 ∧ 2048 ≤ b0 % 16 * 4096 + b1 % 64 * 64 + b2 % 64 ∧ (b0 % 16 * 4096 + b1 % 64 * 64 + b2 % 64 < 55296 ∨ 57344 ≤ b0 % 16 * 4096 + b1 % 64 * 64 + b2 % 64)
def Q4 (n b0 b1 b2 b3 : Nat) : Prop := b0 / 8 = 30 ∧ 3 < n ∧ b1 / 64 = 2 ∧ b2 / 64 = 2 ∧ b3 / 64 = 2 ∧ 65536 ≤ b0 % 8 * 262144 + b1 % 64 * 4096 + b2 % 64 * 64 + b3 % 64 ∧ b0 % 8 * 262144 + b1 % 64 * 4096 + b2 % 64 * 64 + b3 % 64 ≤ 1114111

theorem decN2 {n b0 b1 b2 b3 : Nat} (h : Q2 n b0 b1) : Lib.decodeN n b0 b1 b2 b3 = (b0 % 32 * 64 + b1 % 64, 2) := by
  unfold Q2 at h; unfold Lib.decodeN
  repeat' split
  all_goals first | (exfalso; omega) | rfl

theorem decN3 {n b0 b1 b2 b3 : Nat} (h : Q3 n b0 b1 b2) : Lib.decodeN n b0 b1 b2 b3 = (b0 % 16 * 4096 + b1 % 64 * 64 + b2 % 64, 3) := by
  unfold Q3 at h; unfold Lib.decodeN
  repeat' split
  all_goals first | (exfalso; omega) | rfl

theorem decN4 {n b0 b1 b2 b3 : Nat} (h : Q4 n b0 b1 b2 b3) : Lib.decodeN n b0 b1 b2 b3 = (b0 % 8 * 262144 + b1 % 64 * 4096 + b2 % 64 * 64 + b3 % 64, 4) := by
  unfold Q4 at h; unfold Lib.decodeN
  repeat' split
  all_goals first | (exfalso; omega) | rfl

theorem decN0 {n b0 b1 b2 b3 : Nat} (h0 : 128 ≤ b0) (h2 : ¬ Q2 n b0 b1) (h3 : ¬ Q3 n b0 b1 b2) (h4 : ¬ Q4 n b0 b1 b2 b3) : Lib.decodeN n b0 b1 b2 b3 = (65533, 1) := by
  unfold Q2 at h2; unfold Q3 at h3; unfold Q4 at h4; unfold Lib.decodeN
  repeat' split
  all_goals first | (exfalso; omega) | rfl

/-- The five cases. -/
theorem dec_cases (l : List UInt8) :
    (bt l 0 < 128 ∧ dec l = (bt l 0, 1)) ∨
    (Q2 l.length (bt l 0) (bt l 1) ∧ dec l = (bt l 0 % 32 * 64 + bt l 1 % 64, 2)) ∨
    (Q3 l.length (bt l 0) (bt l 1) (bt l 2) ∧ dec l = (bt l 0 % 16 * 4096 + bt l 1 % 64 * 64 + bt l 2 % 64, 3)) ∨
    (Q4 l.length (bt l 0) (bt l 1) (bt l 2) (bt l 3) ∧ dec l = (bt l 0 % 8 * 262144 + bt l 1 % 64 * 4096 + bt l 2 % 64 * 64 + bt l 3 % 64, 4)) ∨
    (128 ≤ bt l 0 ∧ ¬ Q2 l.length (bt l 0) (bt l 1) ∧ ¬ Q3 l.length (bt l 0) (bt l 1) (bt l 2) ∧ ¬ Q4 l.length (bt l 0) (bt l 1) (bt l 2) (bt l 3) ∧ dec l = (65533, 1)) := by
  by_cases h0 : bt l 0 < 128
  · exact .inl ⟨h0, dec_low l h0⟩
  · by_cases h2 : Q2 l.length (bt l 0) (bt l 1)
    · exact .inr (.inl ⟨h2, decN2 h2⟩)
    · by_cases h3 : Q3 l.length (bt l 0) (bt l 1) (bt l 2)
      · exact .inr (.inr (.inl ⟨h3, decN3 h3⟩))
      · by_cases h4 : Q4 l.length (bt l 0) (bt l 1) (bt l 2) (bt l 3)
        · exact .inr (.inr (.inr (.inl ⟨h4, decN4 h4⟩)))
        · exact .inr (.inr (.inr (.inr ⟨by omega, h2, h3, h4, decN0 (by omega) h2 h3 h4⟩)))

/-- Of two lists that are alike as far as the width reaches. -/
theorem dec_like (l t : List UInt8) (hne : l ≠ []) (htl : t.length ≤ l.length) (hk : (dec l).2 ≤ t.length) (hb : ∀ i, i < t.length → bt t i = bt l i) : dec t = dec l := by
  have hp := dec_pos l hne
  rcases dec_cases l with ⟨h, e⟩ | ⟨h, e⟩ | ⟨h, e⟩ | ⟨h, e⟩ | ⟨h0, h2, h3, h4, e⟩
  · rw [e] at hk ⊢; dsimp only at hk
    rw [← hb 0 (by omega)] at h ⊢; exact dec_low t h
  · rw [e] at hk ⊢; dsimp only at hk
    have c0 := hb 0 (by omega); have c1 := hb 1 (by omega)
    rw [← c0, ← c1] at h ⊢
    exact decN2 ⟨h.1, by omega, h.2.2.1, h.2.2.2⟩
  · rw [e] at hk ⊢; dsimp only at hk
    have c0 := hb 0 (by omega); have c1 := hb 1 (by omega); have c2 := hb 2 (by omega)
    rw [← c0, ← c1, ← c2] at h ⊢
    exact decN3 ⟨h.1, by omega, h.2.2.1, h.2.2.2.1, h.2.2.2.2⟩
  · rw [e] at hk ⊢; dsimp only at hk
    have c0 := hb 0 (by omega); have c1 := hb 1 (by omega); have c2 := hb 2 (by omega); have c3 := hb 3 (by omega)
    rw [← c0, ← c1, ← c2, ← c3] at h ⊢
    exact decN4 ⟨h.1, by omega, h.2.2.1, h.2.2.2.1, h.2.2.2.2.1, h.2.2.2.2.2⟩
  · rw [e] at hk ⊢; dsimp only at hk
    have c0 := hb 0 (by omega)
    refine decN0 (by omega) (fun q => h2 ?_) (fun q => h3 ?_) (fun q => h4 ?_)
    · have c1 := hb 1 (by have := q.2.1; omega)
      rw [c0, c1] at q; exact ⟨q.1, by have := q.2.1; omega, q.2.2.1, q.2.2.2⟩
    · have c1 := hb 1 (by have := q.2.1; omega); have c2 := hb 2 (by have := q.2.1; omega)
      rw [c0, c1, c2] at q; exact ⟨q.1, by have := q.2.1; omega, q.2.2.1, q.2.2.2.1, q.2.2.2.2⟩
    · have c1 := hb 1 (by have := q.2.1; omega); have c2 := hb 2 (by have := q.2.1; omega); have c3 := hb 3 (by have := q.2.1; omega)
      rw [c0, c1, c2, c3] at q; exact ⟨q.1, by have := q.2.1; omega, q.2.2.1, q.2.2.2.1, q.2.2.2.2.1, q.2.2.2.2.2⟩

theorem dec_take (l : List UInt8) (k : Nat) (h : l ≠ []) (hk : (dec l).2 ≤ k) : dec (l.take k) = dec l := by
  have hl := dec_le l h
  refine dec_like l (l.take k) h (by simp; omega) (by simp; omega) ?_
  intro i hi
  exact bt_take l k i (by simp at hi; omega)

/-- A rune stays what it is, whatever stands behind it. -/
theorem dec_append (l t : List UInt8) (h : l ≠ []) (hw : dec l ≠ (65533, 1)) : dec (l ++ t) = dec l := by
  have hl : 0 < l.length := List.length_pos_iff.2 h
  have c0 : bt (l ++ t) 0 = bt l 0 := bt_append l t 0 hl
  rcases dec_cases l with ⟨h, e⟩ | ⟨h, e⟩ | ⟨h, e⟩ | ⟨h, e⟩ | ⟨h0, h2, h3, h4, e⟩
  · rw [e, ← c0]; exact dec_low _ (by omega)
  · have c1 : bt (l ++ t) 1 = bt l 1 := bt_append l t 1 h.2.1
    rw [e, ← c0, ← c1]; rw [← c0, ← c1] at h
    exact decN2 ⟨h.1, by have := h.2.1; simp; omega, h.2.2.1, h.2.2.2⟩
  · have h' := h.2.1
    have c1 : bt (l ++ t) 1 = bt l 1 := bt_append l t 1 (by omega)
    have c2 : bt (l ++ t) 2 = bt l 2 := bt_append l t 2 (by omega)
    rw [e, ← c0, ← c1, ← c2]; rw [← c0, ← c1, ← c2] at h
    exact decN3 ⟨h.1, by simp; omega, h.2.2.1, h.2.2.2.1, h.2.2.2.2⟩
  · have h' := h.2.1
    have c1 : bt (l ++ t) 1 = bt l 1 := bt_append l t 1 (by omega)
    have c2 : bt (l ++ t) 2 = bt l 2 := bt_append l t 2 (by omega)
    have c3 : bt (l ++ t) 3 = bt l 3 := bt_append l t 3 (by omega)
    rw [e, ← c0, ← c1, ← c2, ← c3]; rw [← c0, ← c1, ← c2, ← c3] at h
    exact decN4 ⟨h.1, by simp; omega, h.2.2.1, h.2.2.2.1, h.2.2.2.2.1, h.2.2.2.2.2⟩
  · exact absurd e hw

/-! ### The cutting -/

def cutF : Nat → List UInt8 → List (List UInt8)
  | 0, _ => []
  | f + 1, l => if l = [] then [] else l.take (dec l).2 :: cutF f (l.drop (dec l).2)
def cut (l : List UInt8) : List (List UInt8) := cutF l.length l

theorem cutF_fuel : ∀ (f g : Nat) (l : List UInt8), l.length ≤ f → l.length ≤ g → cutF f l = cutF g l
  | 0, 0, _, _, _ => rfl
  | 0, g + 1, l, h, _ => by
    have : l = [] := List.length_eq_zero_iff.1 (by omega)
    simp [cutF, this]
  | f + 1, 0, l, _, h => by
    have : l = [] := List.length_eq_zero_iff.1 (by omega)
    simp [cutF, this]
  | f + 1, g + 1, l, hf, hg => by
    unfold cutF
    split
    · rfl
    · rename_i hl
      have hp := dec_pos l hl
      have : 0 < l.length := List.length_pos_iff.2 hl
      rw [cutF_fuel f g (l.drop (dec l).2) (by simp; omega) (by simp; omega)]

theorem cut_nil : cut [] = [] := rfl

theorem cut_cons (l : List UInt8) (h : l ≠ []) : cut l = l.take (dec l).2 :: cut (l.drop (dec l).2) := by
  have hp := dec_pos l h
  have hl : 0 < l.length := List.length_pos_iff.2 h
  obtain ⟨n, hn⟩ : ∃ n, l.length = n + 1 := ⟨l.length - 1, by omega⟩
  unfold cut
  rw [hn]
  conv => lhs; unfold cutF
  rw [if_neg h]
  congr 1
  exact cutF_fuel _ _ _ (by simp; omega) (Nat.le_refl _)

/-- Induction along the cutting. -/
theorem cut_ind {P : List UInt8 → Prop} (h0 : P []) (h1 : ∀ l, l ≠ [] → P (l.drop (dec l).2) → P l) : ∀ l, P l := by
  have key : ∀ n l, l.length ≤ n → P l := by
    intro n
    induction n with
    | zero => intro l h; rw [List.length_eq_zero_iff.1 (Nat.le_zero.1 h)]; exact h0
    | succ n ih =>
      intro l h
      by_cases hl : l = []
      · rw [hl]; exact h0
      · exact h1 l hl (ih _ (by have := dec_pos l hl; simp; omega))
  exact fun l => key l.length l (Nat.le_refl _)

theorem cut_flatten : ∀ l, (cut l).flatten = l := by
  apply cut_ind
  · rfl
  · intro l h ih
    rw [cut_cons l h, List.flatten_cons, ih, List.take_append_drop]

theorem cut_ne (l : List UInt8) (h : l ≠ []) : cut l ≠ [] := by rw [cut_cons l h]; simp

theorem cut_len_le : ∀ l, (cut l).length ≤ l.length := by
  apply cut_ind
  · simp [cut_nil]
  · intro l h ih
    have := dec_pos l h; have := dec_le l h
    rw [cut_cons l h]; simp at ih ⊢; omega

/-- The first chunks, cut again, are they. -/
theorem cut_take : ∀ (l : List UInt8) (n : Nat), cut ((cut l).take n).flatten = (cut l).take n := by
  apply cut_ind
  · intro n; simp [cut_nil]
  · intro l h ih n
    cases n with
    | zero => simp [cut_nil]
    | succ n =>
      have hp := dec_pos l h; have hl := dec_le l h
      rw [cut_cons l h, List.take_succ_cons, List.flatten_cons]
      have e : l.take (dec l).2 ++ ((cut (l.drop (dec l).2)).take n).flatten = l.take ((dec l).2 + ((cut (l.drop (dec l).2)).take n).flatten.length) := by
        rw [List.take_add]
        congr 1
        have h2 : ((cut (l.drop (dec l).2)).take n).flatten ++ ((cut (l.drop (dec l).2)).drop n).flatten = l.drop (dec l).2 := by
          rw [← List.flatten_append, List.take_append_drop, cut_flatten]
        have h3 := List.take_left' (l₁ := ((cut (l.drop (dec l).2)).take n).flatten) (l₂ := ((cut (l.drop (dec l).2)).drop n).flatten) rfl
        rw [h2] at h3
        exact h3.symm
      have hd : dec (l.take (dec l).2 ++ ((cut (l.drop (dec l).2)).take n).flatten) = dec l := by
        rw [e]; exact dec_take l _ h (by omega)
      have hlen : (l.take (dec l).2).length = (dec l).2 := by simp; omega
      have hne : l.take (dec l).2 ++ ((cut (l.drop (dec l).2)).take n).flatten ≠ [] := by
        intro hh
        have := congrArg List.length hh
        rw [List.length_append, hlen] at this
        simp only [List.length_nil] at this; omega
      rw [cut_cons _ hne, hd]
      rw [List.take_left' hlen, List.drop_left' hlen, ih n]

/-- What is behind the first chunks is cut into the others. -/
theorem cut_drop : ∀ (l : List UInt8) (n : Nat), cut ((cut l).drop n).flatten = (cut l).drop n := by
  apply cut_ind
  · intro n; simp [cut_nil]
  · intro l h ih n
    cases n with
    | zero => rw [List.drop_zero, cut_flatten]
    | succ n => rw [cut_cons l h, List.drop_succ_cons, ih n]

/-- No byte is wrong. -/
def wr (c : List UInt8) : Bool := decide (dec c = (65533, 1))
def valid (l : List UInt8) : Bool := (cut l).all fun c => !wr c

theorem valid_cons (l : List UInt8) (h : l ≠ []) : valid l = (!wr l && valid (l.drop (dec l).2)) := by
  unfold valid
  rw [cut_cons l h, List.all_cons]
  congr 1
  unfold wr
  rw [dec_take l _ h (Nat.le_refl _)]

theorem cut_append : ∀ (l t : List UInt8), valid l = true → cut (l ++ t) = cut l ++ cut t := by
  intro l t
  revert l
  apply cut_ind
  · intro _; simp [cut_nil]
  · intro l h ih hv
    rw [valid_cons l h, Bool.and_eq_true] at hv
    have hw : dec l ≠ (65533, 1) := by
      have := hv.1
      simpa [wr] using this
    have hl := dec_le l h
    have hne : l ++ t ≠ [] := by simp [h]
    rw [cut_cons _ hne, dec_append l t h hw, cut_cons l h, List.cons_append, List.take_append_of_le_length hl, List.drop_append_of_le_length hl, ih hv.2]

end Go.Rc1
