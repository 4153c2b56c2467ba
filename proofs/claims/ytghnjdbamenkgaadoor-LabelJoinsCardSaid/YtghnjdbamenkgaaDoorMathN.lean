/-
  Plain facts on names: that all runes of a text may stand in a name says the same as that it is valid and all its bytes may. No program is named here. Conditions: none.
-/
import Derived.Test.YtghnjdbamenkgaaDoorMathR
namespace Go.Rc1

def okB (b : UInt8) : Bool := decide (32 ≤ b.toNat) && !decide (b.toNat = 127)

theorem bt_get (l : List UInt8) (i : Nat) (h : i < l.length) : bt l i = l[i].toNat := by
  simp [bt, List.getD_eq_getElem?_getD, List.getElem?_eq_getElem h]

/-- All bytes of a rune of several are 128 or more. -/
theorem high_bytes (l : List UInt8) (_hne : l ≠ []) (hw : wr l = false) (h : 128 ≤ bt l 0) : ∀ i, i < (dec l).2 → 128 ≤ bt l i := by
  have hw' : dec l ≠ (65533, 1) := by simpa [wr] using hw
  rcases dec_cases l with ⟨q, e⟩ | ⟨q, e⟩ | ⟨q, e⟩ | ⟨q, e⟩ | ⟨h0, h2, h3, h4, e⟩
  · omega
  · rw [e]; intro i hi; dsimp only at hi; unfold Q2 at q
    obtain rfl | rfl : i = 0 ∨ i = 1 := by omega
    all_goals omega
  · rw [e]; intro i hi; dsimp only at hi; unfold Q3 at q
    obtain rfl | rfl | rfl : i = 0 ∨ i = 1 ∨ i = 2 := by omega
    all_goals omega
  · rw [e]; intro i hi; dsimp only at hi; unfold Q4 at q
    obtain rfl | rfl | rfl | rfl : i = 0 ∨ i = 1 ∨ i = 2 ∨ i = 3 := by omega
    all_goals omega
  · exact absurd e hw'

theorem okc_eq (l : List UInt8) (hne : l ≠ []) : okc l = (!wr l && (l.take (dec l).2).all okB) := by
  cases hw : wr l with
  | true => unfold okc; rw [hw]; simp
  | false =>
    have hle := dec_le l hne
    have hl : 0 < l.length := List.length_pos_iff.2 hne
    by_cases h : bt l 0 < 128
    · have e := dec_low l h
      obtain ⟨a, t, rfl⟩ : ∃ a t, l = a :: t := by
        cases l with
        | nil => exact absurd rfl hne
        | cons a t => exact ⟨a, t, rfl⟩
      have hb : bt (a :: t) 0 = a.toNat := rfl
      unfold okc
      rw [hw, e, hb]
      simp [okB]
    · have hd := dec_high l (by omega)
      have hh := high_bytes l hne hw (by omega)
      have h1 : okc l = true := by
        unfold okc; rw [hw, decide_eq_true (by omega), decide_eq_false (by omega)]; rfl
      have h2 : (l.take (dec l).2).all okB = true := by
        rw [List.all_eq_true]
        intro b hb
        obtain ⟨i, hi, rfl⟩ := List.mem_iff_getElem.1 hb
        simp only [List.length_take] at hi
        have := hh i (by omega)
        rw [bt_get l i (by omega)] at this
        rw [List.getElem_take]
        unfold okB
        rw [decide_eq_true (by omega), decide_eq_false (by omega)]; rfl
      rw [h1, h2]; rfl

theorem all_okc : ∀ l, (cut l).all okc = (valid l && l.all okB) := by
  apply cut_ind
  · rfl
  · intro l h ih
    rw [cut_cons l h, List.all_cons, okc_take l h, ih, okc_eq l h, valid_cons l h]
    conv => rhs; rw [← List.take_append_drop (dec l).2 l, List.all_append]
    rw [List.take_append_drop]
    cases wr l <;> cases (l.take (dec l).2).all okB <;> simp

theorem right_eq (l : List UInt8) : right l = (decide (1 ≤ count l ∧ count l ≤ 24) && (valid l && l.all okB) && decide (bt l 0 ≠ 32) && decide (bt l (l.length - 1) ≠ 32)) := by
  unfold right; rw [all_okc]

theorem count_pos (l : List UInt8) (h : l ≠ []) : 1 ≤ count l := List.length_pos_iff.2 (cut_ne l h)

end Go.Rc1
