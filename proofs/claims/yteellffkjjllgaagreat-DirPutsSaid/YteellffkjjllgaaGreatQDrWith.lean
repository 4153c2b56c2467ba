/-
  What Without and With answer of a row of files. Conditions: as each theorem states them.
-/
import Derived.Test.YteellffkjjllgaaGreatQDrOps
namespace Go.Proofs.YteellffkjjllgaaGreat
open Go.ChangeShapes Go.WideShapes Go.ChangeAt Go.RowKit Go.Rc5 Go.Rc6 Go.Rc7 Go.Deep

/-- The part of a row behind a place. -/
theorem files_drop {w : World} {x : Addr} {L : List Fl} (h : FilesAt w (some x) L) (k : Nat) : FilesAt w (some (x.add (k * 3))) (L.drop k) := by
  intro i hi
  rw [List.length_drop] at hi
  obtain ⟨y, hy, hf⟩ := h (k + i) (by omega)
  cases hy
  refine ⟨_, rfl, ?_⟩
  rw [add_add, show k * 3 + i * 3 = (k + i) * 3 by omega]
  have e : (L.drop k).getD i default = L.getD (k + i) default := by simp [List.getD_eq_getElem?_getD]
  rw [e]
  exact hf

theorem files_take {w : World} {a : Option Addr} {L : List Fl} (h : FilesAt w a L) (k : Nat) : FilesAt w a (L.take k) := by
  intro i hi
  rw [List.length_take] at hi
  obtain ⟨y, hy, hf⟩ := h i (by omega)
  refine ⟨y, hy, ?_⟩
  have e : (L.take k).getD i default = L.getD i default := by simp [List.getD_eq_getElem?_getD, show i < k by omega]
  rw [e]
  exact hf

theorem slice_front (a : Option Addr) (n c k : Nat) (hk : k ≤ c) (W : World) : (Instr.sliceAt 22 (.slice a n c) none (some (.int .i64 (k : Int))) none).run Tryz.prog W = .ok (.slice a k c) W := by
  have h0 : (0 : Int) ≤ k := by omega
  have h1 : (k : Int) ≤ c := by omega
  go_simp

theorem slice_back (a : Option Addr) (n c k : Nat) (hk : k ≤ n) (_hn : n ≤ c) (W : World) : ∃ y, (Instr.sliceAt 22 (.slice a n c) (some (.int .i64 (k : Int))) none none).run Tryz.prog W = .ok (.slice y (n - k) (c - k)) W ∧ (k < c → ∀ x, a = some x → y = some (x.add (k * 3))) := by
  have h0 : (0 : Int) ≤ k := by omega
  have h1 : (k : Int) ≤ n := by omega
  cases a with
  | none =>
    go_simp
  | some x =>
    by_cases hck : c = k
    · go_simp
    · go_simp

theorem slice_fit {a y : Option Addr} {n c k : Nat} (hn : n ≤ c) (hy : k < c → ∀ x, a = some x → y = some (x.add (k * 3))) {w : World} {L : List Fl} (h : FilesAt w a L) (hl : L.length = n) : FilesAt w y (L.drop k) := by
  by_cases hk : k < c
  · cases a with
    | none =>
      cases L with
      | nil => intro i hi; simp at hi
      | cons g r => obtain ⟨z, hz, _⟩ := h 0 (by simp); cases hz
    | some x =>
      rw [hy hk x rfl]
      exact files_drop h k
  · rw [List.drop_of_length_le (by omega)]
    intro i hi
    simp at hi

/-- Three rows of files in a row of their own. -/
theorem rows_three {W : World} {p q r : Option Addr} {l m n c d e : Nat} {A B C : List Fl} (hA : FilesAt W p A) (hB : FilesAt W q B) (hC : FilesAt W r C) (hl : A.length = l) (hm : B.length = m) (hn : C.length = n) :
    RowsF (W.alloc (.cells #[.slice p l c, .slice q m d, .slice r n e] 22)) (some ⟨W.heap.size, 0, none⟩) [A, B, C] := by
  have hb := (Below.refl W.heap.size W).alloc (Nat.le_refl _) (.cells #[.slice p l c, .slice q m d, .slice r n e] 22)
  subst hl hm hn
  intro i hi
  have h3 : i = 0 ∨ i = 1 ∨ i = 2 := by simp at hi; omega
  rcases h3 with rfl | rfl | rfl
  · exact ⟨_, p, c, rfl, by rw [add_own, World.cell?_alloc_new]; rfl, FilesAt.below hA hb⟩
  · exact ⟨_, q, d, rfl, by rw [add_own, World.cell?_alloc_new]; rfl, FilesAt.below hB hb⟩
  · exact ⟨_, r, e, rfl, by rw [add_own, World.cell?_alloc_new]; rfl, FilesAt.below hC hb⟩

/-- One file in a row of its own. -/
theorem files_one {W : World} {f : Fl} {p : Option Addr} {c : Nat} (h : SpansAt W p f.spans) : FilesAt (W.alloc (.cells #[.string f.name, .int .i64 f.size, .slice p f.spans.length c] 40)) (some ⟨W.heap.size, 0, none⟩) [f] := by
  have hb := (Below.refl W.heap.size W).alloc (Nat.le_refl _) (.cells #[.string f.name, .int .i64 f.size, .slice p f.spans.length c] 40)
  intro i hi
  obtain rfl : i = 0 := by simp at hi; omega
  refine ⟨_, rfl, ?_, ?_, p, c, ?_, SpansAt.below h hb⟩
  · rw [add_own, World.cell?_alloc_new]; rfl
  · rw [add_own, World.cell?_alloc_new]; rfl
  · rw [add_own, World.cell?_alloc_new]; rfl

end Go.Proofs.YteellffkjjllgaaGreat
