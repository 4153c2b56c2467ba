/-
  Plain facts on texts of plain signs (33 to 126, without 92): each byte is a rune, they are quoted as they are, and are names if they are short. No program is named here. Conditions: none.
-/
import Derived.Test.YtghnjdbamenkgaaDoorMathF
namespace Go.Rc1

def plB (b : UInt8) : Bool := decide (33 ≤ b.toNat) && decide (b.toNat ≤ 126) && !decide (b.toNat = 92)

theorem cut_plain : ∀ l : List UInt8, l.all plB = true → cut l = l.map fun b => [b] := by
  intro l
  induction l with
  | nil => intro _; rfl
  | cons a t ih =>
    intro h
    rw [List.all_cons, Bool.and_eq_true] at h
    have ha := h.1
    simp only [plB, Bool.and_eq_true, decide_eq_true_eq, Bool.not_eq_true', decide_eq_false_iff_not] at ha
    have hb : bt (a :: t) 0 = a.toNat := rfl
    have e := dec_low (a :: t) (by rw [hb]; omega)
    rw [cut_cons _ (by simp), e]
    simp only [List.take_succ_cons, List.take_zero, List.drop_succ_cons, List.drop_zero, List.map_cons]
    rw [ih h.2]

theorem plain_dec (b : UInt8) (h : plB b = true) : dec [b] = (b.toNat, 1) := by
  simp only [plB, Bool.and_eq_true, decide_eq_true_eq, Bool.not_eq_true', decide_eq_false_iff_not] at h
  have hb : bt [b] 0 = b.toNat := rfl
  rw [dec_low [b] (by rw [hb]; omega), hb]

theorem plain_wr (b : UInt8) (h : plB b = true) : wr [b] = false := by
  have e := plain_dec b h
  simp only [plB, Bool.and_eq_true, decide_eq_true_eq, Bool.not_eq_true', decide_eq_false_iff_not] at h
  unfold wr; rw [e, decide_eq_false]
  intro h'; simp only [Prod.mk.injEq] at h'; omega

theorem plain_quote (l : List UInt8) (h : l.all plB = true) : quoteF l = l := by
  unfold quoteF
  rw [cut_plain l h, List.flatMap_map]
  have : ∀ b ∈ l, qc [b] = [b] := by
    intro b hb
    have hp := List.all_eq_true.1 h b hb
    unfold qc
    rw [plain_wr b hp, plain_dec b hp]
    simp only [plB, Bool.and_eq_true, decide_eq_true_eq, Bool.not_eq_true', decide_eq_false_iff_not] at hp
    rw [if_neg (by decide)]
    unfold qr
    rw [if_neg hp.2, if_pos ⟨hp.1.1, hp.1.2⟩]
    simp
  rw [show l.flatMap (fun b => qc [b]) = l.flatMap (fun b => [b]) from ?_]
  · simp
  · simp only [List.flatMap]
    rw [List.map_congr_left this]

theorem plain_count (l : List UInt8) (h : l.all plB = true) : count l = l.length := by
  unfold count; rw [cut_plain l h, List.length_map]

theorem plain_valid (l : List UInt8) (h : l.all plB = true) : valid l = true := by
  unfold valid
  rw [cut_plain l h, List.all_map, List.all_eq_true]
  intro b hb
  simp [plain_wr b (List.all_eq_true.1 h b hb)]

theorem plain_bt (l : List UInt8) (h : l.all plB = true) (i : Nat) (hi : i < l.length) : 33 ≤ bt l i ∧ bt l i ≤ 126 ∧ bt l i ≠ 92 := by
  have := List.all_eq_true.1 h l[i] (List.getElem_mem hi)
  simp only [plB, Bool.and_eq_true, decide_eq_true_eq, Bool.not_eq_true', decide_eq_false_iff_not] at this
  rw [bt_get l i hi]; omega

theorem plain_right (l : List UInt8) (h : l.all plB = true) (hne : l ≠ []) : right l = decide (l.length ≤ 24) := by
  have hl : 0 < l.length := List.length_pos_iff.2 hne
  have h0 := plain_bt l h 0 hl
  have h1 := plain_bt l h (l.length - 1) (by omega)
  rw [right_eq, plain_count l h, plain_valid l h, decide_eq_true (show bt l 0 ≠ 32 by omega), decide_eq_true (show bt l (l.length - 1) ≠ 32 by omega)]
  have : l.all okB = true := by
    rw [List.all_eq_true]
    intro b hb
    have := List.all_eq_true.1 h b hb
    simp only [plB, Bool.and_eq_true, decide_eq_true_eq, Bool.not_eq_true', decide_eq_false_iff_not] at this
    unfold okB
    rw [decide_eq_true (by omega), decide_eq_false (by omega)]; rfl
  rw [this]
  simp only [Bool.and_true]
  rw [Bool.eq_iff_iff]
  simp only [decide_eq_true_eq]
  omega

end Go.Rc1
