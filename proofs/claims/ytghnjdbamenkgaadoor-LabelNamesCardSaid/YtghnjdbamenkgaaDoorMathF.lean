/-
  Plain facts on small letters for A to Z, over lists of bytes: folding keeps the cutting into runes. No program is named here. Conditions: none.
-/
import Derived.Test.YtghnjdbamenkgaaDoorMathN
namespace Go.Rc1

def fN (n : Nat) : Nat := if 65 ≤ n ∧ n ≤ 90 then n + 32 else n
def fB (b : UInt8) : UInt8 := UInt8.ofNat (fN b.toNat)
def fold (l : List UInt8) : List UInt8 := l.map fB

theorem fN_lt (n : Nat) (h : n < 256) : fN n < 256 := by unfold fN; split <;> omega
theorem fB_toNat (b : UInt8) : (fB b).toNat = fN b.toNat := by
  have := fN_lt b.toNat (UInt8.toNat_lt b)
  simp [fB]; omega

theorem fold_length (l : List UInt8) : (fold l).length = l.length := by simp [fold]
theorem fold_nil {l : List UInt8} : fold l = [] ↔ l = [] := by simp [fold]
theorem fold_append (a b : List UInt8) : fold (a ++ b) = fold a ++ fold b := by simp [fold]
theorem fold_take (l : List UInt8) (n : Nat) : fold (l.take n) = (fold l).take n := by simp [fold, List.map_take]
theorem fold_drop (l : List UInt8) (n : Nat) : fold (l.drop n) = (fold l).drop n := by simp [fold, List.map_drop]

theorem bt_fold (l : List UInt8) (i : Nat) : bt (fold l) i = fN (bt l i) := by
  by_cases h : i < l.length
  · rw [bt_get _ i (by rw [fold_length]; exact h), bt_get l i h]
    simp [fold, fB_toNat]
  · rw [bt_zero_of_le _ i (by rw [fold_length]; omega), bt_zero_of_le l i (by omega)]
    rfl

theorem fold_fold (l : List UInt8) : fold (fold l) = fold l := by
  unfold fold
  rw [List.map_map]
  apply List.map_congr_left
  intro b _
  apply UInt8.toNat_inj.1
  simp only [Function.comp, fB_toNat]
  unfold fN
  split
  · rw [if_neg (by omega)]
  · rfl

theorem dec_fold (l : List UInt8) : dec (fold l) = (fN (dec l).1, (dec l).2) := by
  have b0 := bt_lt l 0; have b1 := bt_lt l 1; have b2 := bt_lt l 2; have b3 := bt_lt l 3
  have hi : ∀ n, 128 ≤ n → fN n = n := fun n h => by unfold fN; rw [if_neg (by omega)]
  have lo : ∀ n, n < 128 → fN n < 128 := fun n h => by unfold fN; split <;> omega
  rcases dec_cases l with ⟨h, e⟩ | ⟨q, e⟩ | ⟨q, e⟩ | ⟨q, e⟩ | ⟨h0, h2, h3, h4, e⟩
  · rw [e]
    have := lo _ h
    rw [dec_low _ (by rw [bt_fold]; exact this), bt_fold]
  · rw [e]
    have q' := q
    unfold Q2 at q'
    dsimp only
    rw [hi (bt l 0 % 32 * 64 + bt l 1 % 64) (by omega)]
    have e0 := hi (bt l 0) (by omega); have e1 := hi (bt l 1) (by omega)
    have : Q2 (fold l).length (bt (fold l) 0) (bt (fold l) 1) := by rw [bt_fold, bt_fold, e0, e1, fold_length]; exact q
    have := decN2 (b2 := bt (fold l) 2) (b3 := bt (fold l) 3) this
    rw [bt_fold l 0, bt_fold l 1, e0, e1] at this
    unfold dec; rw [bt_fold l 0, bt_fold l 1, e0, e1]; exact this
  · rw [e]
    have q' := q
    unfold Q3 at q'
    dsimp only
    rw [hi (bt l 0 % 16 * 4096 + bt l 1 % 64 * 64 + bt l 2 % 64) (by omega)]
    have e0 := hi (bt l 0) (by omega); have e1 := hi (bt l 1) (by omega); have e2 := hi (bt l 2) (by omega)
    have : Q3 (fold l).length (bt (fold l) 0) (bt (fold l) 1) (bt (fold l) 2) := by rw [bt_fold, bt_fold, bt_fold, e0, e1, e2, fold_length]; exact q
    have := decN3 (b3 := bt (fold l) 3) this
    rw [bt_fold l 0, bt_fold l 1, bt_fold l 2, e0, e1, e2] at this
    unfold dec; rw [bt_fold l 0, bt_fold l 1, bt_fold l 2, e0, e1, e2]; exact this
  · rw [e]
    have q' := q
    unfold Q4 at q'
    dsimp only
    rw [hi (bt l 0 % 8 * 262144 + bt l 1 % 64 * 4096 + bt l 2 % 64 * 64 + bt l 3 % 64) (by omega)]
    have e0 := hi (bt l 0) (by omega); have e1 := hi (bt l 1) (by omega); have e2 := hi (bt l 2) (by omega); have e3 := hi (bt l 3) (by omega)
    have : Q4 (fold l).length (bt (fold l) 0) (bt (fold l) 1) (bt (fold l) 2) (bt (fold l) 3) := by rw [bt_fold, bt_fold, bt_fold, bt_fold, e0, e1, e2, e3, fold_length]; exact q
    have := decN4 this
    rw [bt_fold l 0, bt_fold l 1, bt_fold l 2, bt_fold l 3, e0, e1, e2, e3] at this
    unfold dec; rw [bt_fold l 0, bt_fold l 1, bt_fold l 2, bt_fold l 3, e0, e1, e2, e3]; exact this
  · rw [e]
    show _ = (65533, 1)
    have k : ∀ n, fN n / 64 = 2 → fN n = n := fun n h => by
      rcases Nat.lt_or_ge n 128 with g | g
      · have := lo n g; omega
      · exact hi n g
    have e0 := hi (bt l 0) h0
    unfold dec
    refine decN0 (by rw [bt_fold, e0]; exact h0) (fun q => h2 ?_) (fun q => h3 ?_) (fun q => h4 ?_)
    · have e1 := k (bt l 1) (by have := q.2.2.1; rwa [bt_fold] at this)
      rwa [bt_fold, bt_fold, e0, e1, fold_length] at q
    · have e1 := k (bt l 1) (by have := q.2.2.1; rwa [bt_fold l 1] at this)
      have e2 := k (bt l 2) (by have := q.2.2.2.1; rwa [bt_fold l 2] at this)
      rwa [bt_fold l 0, bt_fold l 1, bt_fold l 2, e0, e1, e2, fold_length] at q
    · have e1 := k (bt l 1) (by have := q.2.2.1; rwa [bt_fold l 1] at this)
      have e2 := k (bt l 2) (by have := q.2.2.2.1; rwa [bt_fold l 2] at this)
      have e3 := k (bt l 3) (by have := q.2.2.2.2.1; rwa [bt_fold l 3] at this)
      rwa [bt_fold l 0, bt_fold l 1, bt_fold l 2, bt_fold l 3, e0, e1, e2, e3, fold_length] at q

theorem wr_fold (l : List UInt8) : wr (fold l) = wr l := by
  unfold wr
  rw [dec_fold, Bool.eq_iff_iff]
  simp only [decide_eq_true_eq]
  obtain ⟨a, b⟩ := dec l
  simp only [Prod.mk.injEq]
  unfold fN
  split <;> omega

theorem okc_fold (l : List UInt8) : okc (fold l) = okc l := by
  unfold okc
  rw [wr_fold, dec_fold]
  congr 1
  dsimp only
  unfold fN
  rw [Bool.eq_iff_iff]
  simp only [Bool.and_eq_true, decide_eq_true_eq, Bool.not_eq_true', decide_eq_false_iff_not]
  split <;> omega

theorem cut_fold : ∀ l, cut (fold l) = (cut l).map fold := by
  apply cut_ind
  · rfl
  · intro l h ih
    rw [cut_cons (fold l) (fun e => h (fold_nil.1 e)), cut_cons l h, dec_fold]
    dsimp only
    rw [List.map_cons, ← fold_take, ← fold_drop, ih]

theorem count_fold (l : List UInt8) : count (fold l) = count l := by unfold count; rw [cut_fold, List.length_map]

theorem right_fold (l : List UInt8) : right (fold l) = right l := by
  unfold right
  rw [count_fold, cut_fold, List.all_map, bt_fold, bt_fold, fold_length]
  have e1 : (cut l).all (okc ∘ fold) = (cut l).all okc := by congr 1; funext c; exact okc_fold c
  have e2 : ∀ n, decide (fN n ≠ 32) = decide (n ≠ 32) := fun n => by
    unfold fN; rw [Bool.eq_iff_iff]; simp only [decide_eq_true_eq]; split <;> omega
  rw [e1, e2, e2]

/-- What the program leaves is what is left. -/
theorem fold_same (l : List UInt8) (hne : l ≠ []) (h : ¬ (65 ≤ (dec l).1 ∧ (dec l).1 ≤ 90)) : ∀ i, i < (dec l).2 → fN (bt l i) = bt l i := by
  intro i hi
  rcases Nat.lt_or_ge (bt l 0) 128 with h0 | h0
  · rw [dec_low l h0] at h hi
    dsimp only at h hi
    obtain rfl : i = 0 := by omega
    unfold fN; rw [if_neg h]
  · cases hw : wr l with
    | true =>
      have := wr_high l hw
      obtain rfl : i = 0 := by omega
      unfold fN; rw [if_neg (by omega)]
    | false =>
      have := high_bytes l hne hw h0 i hi
      unfold fN; rw [if_neg (by omega)]

theorem fold_cap (l : List UInt8) (h : 65 ≤ (dec l).1 ∧ (dec l).1 ≤ 90) : (dec l).2 = 1 ∧ bt l 0 = (dec l).1 := by
  rcases Nat.lt_or_ge (bt l 0) 128 with h0 | h0
  · rw [dec_low l h0]; exact ⟨rfl, rfl⟩
  · have := dec_high l h0; omega

end Go.Rc1
