/-
  Plain facts on finding a byte in a list, and on the looks of a quoted rune inside a longer word. No program is named here. Conditions: none.
-/
import Derived.Test.YtghnjdbamenkgaaDoorMathE
import Derived.Lib.Bytealg
namespace Go.Rc1

theorem index_none : ∀ (l : List UInt8) (c : UInt8), Lib.indexByte l c = -1 → c ∉ l
  | [], c, _ => by simp
  | b :: l, c, h => by
    unfold Lib.indexByte at h
    by_cases e : (b == c) = true
    · rw [if_pos e] at h; omega
    · rw [if_neg e] at h
      by_cases e2 : (Lib.indexByte l c == -1) = true
      · have := index_none l c (by simpa using e2)
        rw [List.mem_cons]
        rintro (rfl | h')
        · simp at e
        · exact this h'
      · rw [if_neg e2] at h
        exfalso
        have : ∀ (l : List UInt8) (c : UInt8), -1 ≤ Lib.indexByte l c := by
          intro l c
          induction l with
          | nil => simp [Lib.indexByte]
          | cons a t ih => unfold Lib.indexByte; repeat' split; all_goals omega
        have h1 := this l c
        have : Lib.indexByte l c = -2 := by omega
        omega

theorem index_some : ∀ (l : List UInt8) (c : UInt8), Lib.indexByte l c ≠ -1 → ∃ i, i < l.length ∧ Lib.indexByte l c = (i : Int) ∧ l[i]? = some c ∧ ∀ j, j < i → l[j]? ≠ some c
  | [], c, h => by simp [Lib.indexByte] at h
  | b :: l, c, h => by
    unfold Lib.indexByte at h ⊢
    by_cases e : (b == c) = true
    · rw [if_pos e]
      exact ⟨0, by simp, rfl, by simpa using e, fun j hj => by omega⟩
    · rw [if_neg e] at h ⊢
      by_cases e2 : (Lib.indexByte l c == -1) = true
      · rw [if_pos e2] at h; exact absurd rfl h
      · rw [if_neg e2]
        obtain ⟨i, hi, h1, h2, h3⟩ := index_some l c (by simpa using e2)
        refine ⟨i + 1, by simp; omega, by rw [h1]; simp, by simpa using h2, fun j hj => ?_⟩
        cases j with
        | zero => simpa using e
        | succ j => simpa using h3 j (by omega)

def Mk (l p : List UInt8) (k : Nat) : Prop :=
  (∀ rest, l = 92 :: 92 :: rest → p = [92] ∧ k = 2) ∧
  (∀ n rest, 128 ≤ n → n < 256 → l = [92, 33] ++ hexL n ++ rest → p = [UInt8.ofNat n] ∧ k = 4) ∧
  (∀ r rest, scalar r → l = [92, 123] ++ hexL r ++ [125] ++ rest → p = enc r ∧ k = (hexL r).length + 3)

/-- Where the closing brace of a quoted rune stands. -/
theorem index_brace (l : List UInt8) (r i : Nat) (rest : List UInt8) (h : l = [92, 123] ++ hexL r ++ [125] ++ rest) (h2 : l[i]? = some 125) (h3 : ∀ j, j < i → l[j]? ≠ some 125) : i = (hexL r).length + 2 ∧ (l.drop 2).take (i - 2) = hexL r := by
  have hlen : ([92, 123] ++ hexL r : List UInt8).length = (hexL r).length + 2 := by simp
  have hat : l[(hexL r).length + 2]? = some 125 := by
    rw [h, List.append_assoc, List.getElem?_append_right (by rw [hlen]; exact Nat.le_refl _), hlen]; simp
  have hi : i = (hexL r).length + 2 := by
    rcases Nat.lt_trichotomy i ((hexL r).length + 2) with hlt | he | hgt
    · exfalso
      rw [h, List.append_assoc, List.getElem?_append_left (by rw [hlen]; exact hlt)] at h2
      match i, h2 with
      | 0, h2 => simp at h2
      | 1, h2 => simp at h2
      | i + 2, h2 =>
        have h2' : (hexL r)[i]? = some 125 := by simpa using h2
        have := hexL_dig r 125 (List.mem_of_getElem? h2')
        revert this; decide
    · exact he
    · exact absurd hat (h3 _ hgt)
  refine ⟨hi, ?_⟩
  rw [h, hi]
  simp

theorem mk_no (l : List UInt8) (h1 : ¬ ∃ rest, l = 92 :: 92 :: rest) (h2 : ¬ ∃ n rest, 128 ≤ n ∧ n < 256 ∧ l = [92, 33] ++ hexL n ++ rest) (h3 : ¬ ∃ r rest, scalar r ∧ l = [92, 123] ++ hexL r ++ [125] ++ rest) (p : List UInt8) (k : Nat) : Mk l p k :=
  ⟨fun rest h => absurd ⟨rest, h⟩ h1, fun n rest a b h => absurd ⟨n, rest, a, b, h⟩ h2, fun r rest a h => absurd ⟨r, rest, a, h⟩ h3⟩

end Go.Rc1
