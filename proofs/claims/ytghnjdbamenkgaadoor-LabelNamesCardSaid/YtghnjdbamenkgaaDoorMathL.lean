/-
  Plain facts behind the statements on runes: the first runes are a beginning of the text, what is behind them the rest; how they are counted; that they are valid where all is. No program is named here. Conditions: none.
-/
import Derived.Test.YtghnjdbamenkgaaDoorMathC
namespace Go.Rc1

theorem first_append (l : List UInt8) (n : Nat) : first l n ++ ((cut l).drop n).flatten = l := by
  unfold first
  rw [← List.flatten_append, List.take_append_drop, cut_flatten]

theorem first_len (l : List UInt8) (n : Nat) : (first l n).length ≤ l.length := by
  have := congrArg List.length (first_append l n)
  rw [List.length_append] at this; omega

theorem first_take (l : List UInt8) (n : Nat) : l.take (first l n).length = first l n := by
  conv => lhs; rw [← first_append l n]
  rw [first_append l n]
  have := List.take_left' (l₁ := first l n) (l₂ := ((cut l).drop n).flatten) rfl
  rwa [first_append l n] at this

theorem first_drop (l : List UInt8) (n : Nat) : l.drop (first l n).length = ((cut l).drop n).flatten := by
  have := List.drop_left' (l₁ := first l n) (l₂ := ((cut l).drop n).flatten) rfl
  rwa [first_append l n] at this

theorem count_first (l : List UInt8) (n : Nat) : count (first l n) = min n (count l) := by
  unfold count first; rw [cut_take, List.length_take]

theorem count_rest (l : List UInt8) (n : Nat) : count (l.drop (first l n).length) = count l - n := by
  rw [first_drop]; unfold count; rw [cut_drop, List.length_drop]

theorem valid_first (l : List UInt8) (n : Nat) (h : valid l = true) : valid (first l n) = true ∧ valid (l.drop (first l n).length) = true := by
  rw [first_drop]
  unfold valid at *
  unfold first
  rw [cut_take, cut_drop]
  rw [List.all_eq_true] at h
  exact ⟨List.all_eq_true.2 fun c hc => h c (List.mem_of_mem_take hc), List.all_eq_true.2 fun c hc => h c (List.mem_of_mem_drop hc)⟩

theorem first_first (l : List UInt8) (a b : Nat) : first (first l a) b = first l (min b a) := by
  conv => lhs; unfold first
  rw [cut_take, List.take_take]
  rfl

end Go.Rc1
