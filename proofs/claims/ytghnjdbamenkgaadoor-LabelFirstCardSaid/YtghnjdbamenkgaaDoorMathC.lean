/-
  Plain facts on counting the runes of a list of bytes, on its first ones, and on names. No program is named here. Conditions: none.
-/
import Derived.Test.YtghnjdbamenkgaaDoorMathQ
namespace Go.Rc1

def count (l : List UInt8) : Nat := (cut l).length
def first (l : List UInt8) (n : Nat) : List UInt8 := ((cut l).take n).flatten

/-- The cutting stands at pos, with m runes behind it. -/
def At (l : List UInt8) (pos m : Nat) : Prop := pos ≤ l.length ∧ m ≤ (cut l).length ∧ m ≤ pos ∧ l.take pos = ((cut l).take m).flatten ∧ cut (l.drop pos) = (cut l).drop m

theorem At.zero (l : List UInt8) : At l 0 0 := ⟨Nat.zero_le _, Nat.zero_le _, Nat.le_refl _, by simp, by simp⟩

theorem At.lt {l : List UInt8} {pos m : Nat} (_h : At l pos m) (hp : pos < l.length) : l.drop pos ≠ [] := by
  intro e
  have := congrArg List.length e
  simp at this; omega

theorem At.next {l : List UInt8} {pos m : Nat} (h : At l pos m) (hp : pos < l.length) : (cut l)[m]? = some ((l.drop pos).take (dec (l.drop pos)).2) ∧ cut (l.drop (pos + (dec (l.drop pos)).2)) = (cut l).drop (m + 1) := by
  have hne := h.lt hp
  have h5 := h.2.2.2.2
  rw [cut_cons _ hne] at h5
  constructor
  · have : ((cut l).drop m)[0]? = some ((l.drop pos).take (dec (l.drop pos)).2) := by rw [← h5]; rfl
    simpa using this
  · have := congrArg List.tail h5
    rw [List.tail_cons, List.tail_drop, List.drop_drop] at this
    exact this

theorem At.step {l : List UInt8} {pos m : Nat} (h : At l pos m) (hp : pos < l.length) : At l (pos + (dec (l.drop pos)).2) (m + 1) := by
  have hne := h.lt hp
  have hn := h.next hp
  have h1 := dec_pos _ hne
  have h2 := dec_le _ hne
  rw [List.length_drop] at h2
  have hm : m < (cut l).length := (List.getElem?_eq_some_iff.1 hn.1).1
  refine ⟨by omega, by omega, by have := h.2.2.1; omega, ?_, hn.2⟩
  rw [List.take_add, h.2.2.2.1, List.take_succ_eq_append_getElem hm, List.flatten_append]
  congr 1
  have := (List.getElem?_eq_some_iff.1 hn.1).2
  rw [this]; simp

theorem At.over {l : List UInt8} {pos m : Nat} (h : At l pos m) (hp : ¬ pos < l.length) : m = (cut l).length := by
  have h5 := h.2.2.2.2
  rw [List.drop_of_length_le (by omega), cut_nil] at h5
  have := congrArg List.length h5
  simp at this
  have := h.2.1
  omega

theorem At.first {l : List UInt8} {pos m : Nat} (h : At l pos m) : l.take pos = first l m := h.2.2.2.1

theorem At.count_lt {l : List UInt8} {pos m : Nat} (h : At l pos m) (hp : pos < l.length) : m < count l := (List.getElem?_eq_some_iff.1 (h.next hp).1).1

theorem first_all (l : List UInt8) (n : Nat) (h : count l ≤ n) : first l n = l := by
  unfold first; rw [List.take_of_length_le h, cut_flatten]

theorem At.all {l : List UInt8} {pos m : Nat} (h : At l pos m) (hp : pos < l.length) (p : List UInt8 → Bool) (hpp : ∀ t, t ≠ [] → p (t.take (dec t).2) = p t) : ((cut l).take (m + 1)).all p = (((cut l).take m).all p && p (l.drop pos)) := by
  have hn := (h.next hp).1
  obtain ⟨hm, e⟩ := List.getElem?_eq_some_iff.1 hn
  rw [List.take_succ_eq_append_getElem hm, List.all_append, e]
  simp [hpp _ (h.lt hp)]

theorem At.bad {l : List UInt8} {pos m : Nat} (h : At l pos m) (hp : pos < l.length) (p : List UInt8 → Bool) (hpp : ∀ t, t ≠ [] → p (t.take (dec t).2) = p t) (hb : p (l.drop pos) = false) : (cut l).all p = false := by
  have hn := (h.next hp).1
  rw [List.all_eq_false]
  refine ⟨_, List.mem_of_getElem? hn, ?_⟩
  rw [hpp _ (h.lt hp), hb]; simp

theorem nwr_take (t : List UInt8) (h : t ≠ []) : (!wr (t.take (dec t).2)) = (!wr t) := by rw [wr_take t h]

/-- A rune that a name may have. -/
def okc (c : List UInt8) : Bool := decide (32 ≤ (dec c).1) && !decide ((dec c).1 = 127) && !wr c
theorem okc_take (t : List UInt8) (h : t ≠ []) : okc (t.take (dec t).2) = okc t := by
  unfold okc; rw [wr_take t h, dec_take t _ h (Nat.le_refl _)]

def right (l : List UInt8) : Bool := decide (1 ≤ count l ∧ count l ≤ 24) && (cut l).all okc && decide (bt l 0 ≠ 32) && decide (bt l (l.length - 1) ≠ 32)

end Go.Rc1
