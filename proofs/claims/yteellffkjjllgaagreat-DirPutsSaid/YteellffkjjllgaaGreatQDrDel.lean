/-
  A directory without a name, as the library's DeleteFunc makes it of a row of the call's own. Conditions: as each theorem states them.
-/
import Derived.Test.YteellffkjjllgaaGreatQDrConcat
namespace Go.Rc7
open Go.Rc5

def keep (nm : ByteArray) (r : FR) : Bool := !decide (r.1.name = nm)

theorem filter_take {α : Type} (p : α → Bool) (R : List α) (j : Nat) (d : α) (h : j < R.length) : (R.take (j + 1)).filter p = (R.take j).filter p ++ if p (R.getD j d) then [R.getD j d] else [] := by
  rw [take_snoc R j d h, List.filter_append]
  congr 1
  by_cases e : p (R.getD j d) = true
  · rw [if_pos e, List.filter_cons_of_pos e]
    rfl
  · rw [if_neg e, List.filter_cons_of_neg e]
    rfl

theorem drop_at {α : Type} (R : List α) (j : Nat) (d : α) (h : j < R.length) : R.drop j = R.getD j d :: R.drop (j + 1) := by
  rw [List.drop_eq_getElem_cons h, List.getD_eq_getElem?_getD, List.getElem?_eq_getElem h]
  rfl

theorem app_at {A B : List Value} {i t : Nat} {u : Value} (hA : A.length = i) (hB : B[t]? = some u) : (A ++ B)[i + t]? = some u := by
  rw [List.getElem?_append_right (by omega), show i + t - A.length = t by omega]
  exact hB

theorem set_three {A B : List Value} {i : Nat} (hA : A.length = i) (m0 m1 m2 x0 x1 x2 : Value) : (((A ++ (m0 :: m1 :: m2 :: B)).set i x0).set (i + 1) x1).set (i + 2) x2 = A ++ (x0 :: x1 :: x2 :: B) := by
  subst hA
  simp [List.set_append_right]

end Go.Rc7
namespace Go.Proofs.YteellffkjjllgaaGreat
open Go.RowKit Go.Rc5 Go.Rc6 Go.Rc7

/-- The first of a name, or that there is none. -/
def First (R : List FR) (nm : ByteArray) (r : Int) : Prop := (∃ k : Nat, r = k ∧ k < R.length ∧ keep nm (R.getD k default) = false ∧ ∀ j, j < k → keep nm (R.getD j default) = true) ∨ (r = -1 ∧ ∀ q ∈ R, keep nm q = true)

theorem files_cells {U : Nat → Prop} {w0 w : World} {l : List (Thing 0)} {g n cap : Nat} {A : List Value} {B : List FR} {r : FR} {j : Nat} (h : Crew U w0 l w) (i : Nat) (hi : l[i]? = some (rowT 0 40 3 (.slice (some ⟨g, 0, none⟩) n cap) n (A ++ filesC (r :: B)))) (hA : A.length = j * 3) :
    w.cell? ⟨g, j * 3, none⟩ = some (.string r.1.name) ∧ w.cell? ⟨g, j * 3 + 1, none⟩ = some (.int .i64 r.1.size) ∧ w.cell? ⟨g, j * 3 + 2, none⟩ = some (rowC r) :=
  ⟨(h.cell i hi (app_at (t := 0) hA rfl)).1, (h.cell i hi (app_at (t := 1) hA rfl)).1, (h.cell i hi (app_at (t := 2) hA rfl)).1⟩

end Go.Proofs.YteellffkjjllgaaGreat
