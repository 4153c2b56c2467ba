/-
  Where a text belongs in a row that rises, as the library's search tells it; a row of texts as one. Conditions: as each theorem states them.
-/
import Derived.Test.YteellffkjjllgaaGreatQDrSl
namespace Go.Rc7
open Go.Rc5

/-- Where a text belongs in a row. -/
structure Belongs (S : List ByteArray) (v : ByteArray) (k : Nat) : Prop where
  le : k ≤ S.length
  below : ∀ j, j < k → lt (S.getD j .empty) v = true
  above : ∀ j, k ≤ j → j < S.length → lt (S.getD j .empty) v = false

/-- The place where a text belongs, and whether it stands there. -/
def FoundAt (S : List ByteArray) (v : ByteArray) (n : Nat) (w : World) (e : Ending) (w' : World) : Prop :=
  (∃ (k : Nat) (b : Bool), e = .returned (.tuple #[.int .i64 k, .bool b]) ∧ Belongs S v k ∧ (b = true ↔ k < n ∧ S.getD k .empty = v)) ∧ w' = w

theorem below_all {S : List ByteArray} (h : Rises S) {v : ByteArray} {k : Nat} (hk : k < S.length) (hl : lt (S.getD k .empty) v = true) : ∀ j, j < k + 1 → lt (S.getD j .empty) v = true := by
  intro j hj
  by_cases e : j = k
  · subst e
    exact hl
  · exact lt_trans (rises_at h (i := j) (j := k) (by omega) hk) hl

theorem above_all {S : List ByteArray} (h : Rises S) {v : ByteArray} {k : Nat} (hl : lt (S.getD k .empty) v = false) : ∀ j, k ≤ j → j < S.length → lt (S.getD j .empty) v = false := by
  intro j hj hjl
  by_cases e : j = k
  · subst e
    exact hl
  · cases hb : lt (S.getD j .empty) v with
    | false => rfl
    | true =>
      have := lt_trans (rises_at h (i := k) (j := j) (by omega) hjl) hb
      rw [hl] at this
      cases this

theorem join_empty (l : List (List UInt8)) : Lib.join l [] = l.flatten := by
  induction l with
  | nil => rfl
  | cons x r ih =>
    cases r with
    | nil => simp [Lib.join]
    | cons y q =>
      simp [Lib.join] at ih ⊢
      exact ih

end Go.Rc7
namespace Go.Proofs.YteellffkjjllgaaGreat
open Go.RowKit Go.Rc5 Go.Rc6 Go.Rc7

theorem neq_self (s : ByteArray) : (s.toList != s.toList) = false := by simp

theorem Join_any (S : List ByteArray) (a : Option Addr) (n c : Nat) (w : World) (h : StrsAt w a S) (hl : S.length = n) (ha : ∀ x, a = some x → ∃ g, x = ⟨g, 0, none⟩ ∧ n ≤ c) (hn : n ≤ 1000000) (hlen : (S.map fun s => s.data.toList).flatten.length ≤ 1000000) :
    Calls Tryz.prog 19 #[.slice a n c, .string ⟨#[]⟩] w fun e w' => e = .returned (.string ⟨(S.map fun s => s.data.toList).flatten.toArray⟩) ∧ Below w.heap.size w w' := by
  subst hl
  cases S with
  | nil =>
    refine (Tryz.strings_Join_none a c ⟨#[]⟩ w).mono ?_
    rintro e w' ⟨rfl, rfl⟩
    exact ⟨rfl, Below.refl _ _⟩
  | cons s r =>
    obtain ⟨x, rfl, c0⟩ := h 0 (by simp)
    obtain ⟨g, rfl, hc⟩ := ha _ rfl
    have hb := row_block c0
    have he : Lib.join ((s :: r).map (·.data.toList)) (⟨#[]⟩ : ByteArray).data.toList = ((s :: r).map fun s => s.data.toList).flatten := join_empty _
    have := Tryz.strings_Join g 0 c (s :: r) ⟨#[]⟩ w (fun j y hy => by
      obtain ⟨x, hx, c1⟩ := h j (List.getElem?_eq_some_iff.1 hy).1
      cases hx
      rw [add_own] at c1
      rw [Nat.zero_add, c1, List.getD_eq_getElem?_getD, hy]
      rfl) hb (by omega) hc (by rw [he]; omega)
    rw [he] at this
    exact this

end Go.Proofs.YteellffkjjllgaaGreat
