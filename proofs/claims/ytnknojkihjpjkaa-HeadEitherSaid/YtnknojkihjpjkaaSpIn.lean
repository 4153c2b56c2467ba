/-
  Rows of spans and of marks in memory, wherever they lie: what their cells hold. Conditions: none.
-/
import Derived.Test.YtnknojkihjpjkaaLawG
import Derived.Test.YtnknojkihjpjkaaCrew
import Derived.Test.YtnknojkihjpjkaaSpMath
import Derived.Deep.Slices
import Derived.Deep.Fields
import Derived.ChangeSame
import Derived.ChangeSlices
namespace Go.Rc5

abbrev SpI := Int × Int

def flatI : List SpI → List Value
  | [] => []
  | s :: r => .int .i64 s.1 :: .int .i64 s.2 :: flatI r

def castS (l : List Sp) : List SpI := l.map fun s => ((s.1 : Int), (s.2 : Int))

def bools (B : List Bool) : List Value := B.map Value.bool

def In64 (x : Int) : Prop := -9223372036854775808 ≤ x ∧ x ≤ 9223372036854775807

/-- A row of spans, read. -/
def SpansAt (w : World) (a : Option Addr) (L : List SpI) : Prop :=
  ∀ i, i < L.length → ∃ x, a = some x ∧ w.cell? (x.add (i * 2)) = some (.int .i64 (L.getD i (0, 0)).1) ∧ w.cell? ⟨(x.add (i * 2)).block, (x.add (i * 2)).off + 1, none⟩ = some (.int .i64 (L.getD i (0, 0)).2)

/-- A row of marks, read. -/
def BoolsAt (w : World) (a : Option Addr) (B : List Bool) : Prop := ∀ i, i < B.length → ∃ x, a = some x ∧ w.cell? (x.add i) = some (.bool (B.getD i false))

theorem flatI_length (L : List SpI) : (flatI L).length = L.length * 2 := by
  induction L with
  | nil => rfl
  | cons x r ih => simp [flatI, ih]; omega

theorem flatI_append (p q : List SpI) : flatI (p ++ q) = flatI p ++ flatI q := by
  induction p with
  | nil => rfl
  | cons x r ih => simp [flatI, ih]

theorem flatI_one (L : List SpI) : ∀ u ∈ flatI L, u.oneCell' = true := by
  induction L with
  | nil => intro u hu; cases hu
  | cons x r ih =>
    intro u hu
    simp only [flatI, List.mem_cons] at hu
    rcases hu with rfl | rfl | hu
    · rfl
    · rfl
    · exact ih u hu

theorem flatI_at (L : List SpI) (i : Nat) (h : i < L.length) : (flatI L)[i * 2]? = some (.int .i64 (L.getD i (0, 0)).1) ∧ (flatI L)[i * 2 + 1]? = some (.int .i64 (L.getD i (0, 0)).2) := by
  induction L generalizing i with
  | nil => simp at h
  | cons x r ih =>
    cases i with
    | zero => simp [flatI]
    | succ i =>
      have := ih i (by simpa using h)
      have e1 : (i + 1) * 2 = i * 2 + 1 + 1 := by omega
      rw [e1]
      simpa [flatI] using this

theorem flatI_set1 (L : List SpI) (i : Nat) (h : i < L.length) (v : Int) : (flatI L).set (i * 2 + 1) (.int .i64 v) = flatI (L.set i ((L.getD i (0, 0)).1, v)) := by
  induction L generalizing i with
  | nil => simp at h
  | cons x r ih =>
    cases i with
    | zero => simp [flatI]
    | succ i =>
      have := ih i (by simpa using h)
      have e1 : (i + 1) * 2 + 1 = i * 2 + 1 + 1 + 1 := by omega
      rw [e1]
      simpa [flatI] using this

theorem castS_length (l : List Sp) : (castS l).length = l.length := by simp [castS]
theorem castS_append (l l' : List Sp) : castS (l ++ l') = castS l ++ castS l' := by simp [castS]

theorem rows_app {f : Nat → Bool} {k : Nat} (hf : f k = true) (hn : ¬ (0 < k ∧ f (k - 1) = true)) : castS (rows f (k + 1)) = castS (rows f k) ++ [((k : Int), 1)] := by
  rw [rows, if_pos hf, if_neg hn, castS_append]
  rfl

theorem castS_inj {l l' : List Sp} (h : castS l = castS l') : l = l' := by
  induction l generalizing l' with
  | nil => cases l' with
    | nil => rfl
    | cons s r => simp [castS] at h
  | cons s r ih => cases l' with
    | nil => simp [castS] at h
    | cons t q =>
      simp only [castS, List.map_cons, List.cons.injEq, Prod.mk.injEq] at h
      obtain ⟨⟨h1, h2⟩, h3⟩ := h
      rw [ih h3, Prod.ext (by omega : s.1 = t.1) (by omega : s.2 = t.2)]

theorem bools_get (B : List Bool) (j : Nat) (h : j < B.length) : (bools B)[j]? = some (.bool (B.getD j false)) := by
  simp [bools, List.getElem?_map, List.getElem?_eq_getElem h, List.getD_eq_getElem?_getD]

theorem bools_set (B : List Bool) (j : Nat) (b : Bool) : (bools B).set j (.bool b) = bools (B.set j b) := by simp [bools, List.map_set]

theorem SpansAt.later {w w' : World} {a : Option Addr} {L : List SpI} (h : SpansAt w a L) (hk : ∀ x v, w.cell? x = some v → w'.cell? x = some v) : SpansAt w' a L := by
  intro i hi
  obtain ⟨x, hx, c0, c1⟩ := h i hi
  exact ⟨x, hx, hk _ _ c0, hk _ _ c1⟩

theorem BoolsAt.later {w w' : World} {a : Option Addr} {B : List Bool} (h : BoolsAt w a B) (hk : ∀ x v, w.cell? x = some v → w'.cell? x = some v) : BoolsAt w' a B := by
  intro i hi
  obtain ⟨x, hx, c0⟩ := h i hi
  exact ⟨x, hx, hk _ _ c0⟩

theorem in64_of {x : Int} (h : (Lit.int .i64 x).wf = true) : In64 x := by
  simp only [Lit.wf, Bool.and_eq_true, decide_eq_true_eq] at h
  exact h

end Go.Rc5
namespace Go.Proofs.Ytnknojkihjpjkaa
open Go.ChangeShapes Go.WideShapes Go.ChangeAt Go.RowKit Go.Rc5 Go.Deep

theorem add_own (g i : Nat) : (⟨g, 0, none⟩ : Addr).add i = ⟨g, i, none⟩ := by unfold Addr.add; split <;> simp_all

theorem SpansAt.below {w w' : World} {a : Option Addr} {L : List SpI} (h : SpansAt w a L) (hb : Below w.heap.size w w') : SpansAt w' a L :=
  h.later fun _ _ hc => (hb.cell (row_block hc)).trans hc

theorem BoolsAt.below {w w' : World} {a : Option Addr} {B : List Bool} (h : BoolsAt w a B) (hb : Below w.heap.size w w') : BoolsAt w' a B :=
  h.later fun _ _ hc => (hb.cell (row_block hc)).trans hc

theorem spans_own {w : World} {base e n : Nat} {a : Option Addr} {c : Nat} {L : List SpI} (h : w.ownsRow base e 2 (.slice a n c) n (flatI L)) : L.length = n ∧ SpansAt w a L := by
  have hl : L.length = n := by have := h.1; rw [flatI_length] at this; omega
  refine ⟨hl, fun i hi => ?_⟩
  rcases h.2 with ⟨_, h0⟩ | ⟨g, cap, cur, hv, _⟩
  · omega
  · simp only [Value.slice.injEq] at hv
    obtain ⟨rfl, _, rfl⟩ := hv
    obtain ⟨h0, h1⟩ := flatI_at L i hi
    refine ⟨_, rfl, ?_, ?_⟩
    · rw [add_own]
      exact (own_cell h h0).1
    · rw [add_own]
      exact (own_cell h h1).1

theorem bools_own {w : World} {base e n : Nat} {a : Option Addr} {c : Nat} {B : List Bool} (h : w.ownsRow base e 1 (.slice a n c) n (bools B)) : B.length = n ∧ BoolsAt w a B := by
  have hl : B.length = n := by have := h.1; simpa [bools] using this
  refine ⟨hl, fun i hi => ?_⟩
  rcases h.2 with ⟨_, h0⟩ | ⟨g, cap, cur, hv, _⟩
  · omega
  · simp only [Value.slice.injEq] at hv
    obtain ⟨rfl, _, rfl⟩ := hv
    refine ⟨_, rfl, ?_⟩
    rw [add_own]
    exact (own_cell h (bools_get B i hi)).1

section
variable {H : Type} {enc : TypeId × Value → H} {P : Program} {w : World} {base : Nat} {spare : Nat → Bool} {held : Bool}

theorem add_spelt (x : Addr) (i j : Nat) : x.add (i + (j + 1)) = ⟨(x.add i).block, (x.add i).off + (j + 1), none⟩ := by
  rw [← add_add]
  rfl

/-- Each field of each element of a row of records lies in a cell of its own, and reads there as its type says. -/
theorem field_cells {t e : TypeId} {fs : Array Field} {fuel : Nat} {a : Option Addr} {len cap : Nat} {x : DataW H × List MemPlace} (ht : P.underlying t = some (.slice e)) (he : P.underlying e = some (.struct fs))
    (hone : oneCellFields P fs = true) (hC : P.cellsOf e = fs.size) (h : DataW.trod enc P w base spare held fuel t [.slice a len cap] = some x) :
    len ≤ cap ∧ cap ≤ maxLen ∧ ∀ i, i < len → ∃ b n, a = some b ∧ ∀ (j : Nat) (f : Field), fs[j]? = some f → ∃ v y, w.cell? (b.add (i * fs.size + j)) = some v ∧ DataW.trod enc P w base spare held n f.type [v] = some y := by
  rcases open_slice ht h with ⟨h0, _⟩ | ⟨b, len', cap', m, n, D, Pl, hcs, _, hl, hm, hmm, _, hi⟩
  · simp only [List.cons.injEq, Value.slice.injEq, and_true] at h0
    obtain ⟨rfl, rfl, rfl⟩ := h0
    exact ⟨Nat.le_refl _, Nat.zero_le _, fun i hi => absurd hi (Nat.not_lt_zero _)⟩
  · simp only [List.cons.injEq, Value.slice.injEq, and_true] at hcs
    obtain ⟨rfl, rfl, rfl⟩ := hcs
    refine ⟨hl, hm, fun i hlt => ?_⟩
    obtain ⟨cs, hc, hr⟩ := hi i (by rw [hmm]; split <;> omega)
    rw [hC] at hc
    obtain ⟨_, hn, hat⟩ := World.cells?_some hc
    obtain ⟨ys, n', _, _, _, hyl, hf⟩ := DataW.trod_struct he hr
    refine ⟨b, n', rfl, fun j f hj => ?_⟩
    have hj' : j < fs.size := (Array.getElem?_eq_some_iff.1 hj).1
    obtain ⟨ho, hk⟩ := hone_of hone j f hj
    have h1 := hf j f hj
    have h2 : (cs.drop j).take 1 = [cs[j]'(by omega)] := by rw [List.drop_eq_getElem_cons (by omega)]; rfl
    have h3 : ys[j]? = some (ys[j]'(by omega)) := List.getElem?_eq_getElem (by omega)
    rw [ho, hk, h2, h3] at h1
    refine ⟨_, _, ?_, h1⟩
    rw [← add_add, hat j hj', List.getElem?_eq_getElem (by omega)]

end

/-- What is known of a row of spans that came in. -/
def IsSpans (w : World) (a : Option Addr) (len : Nat) (L : List SpI) : Prop := L.length = len ∧ SpansAt w a L ∧ ∀ s ∈ L, In64 s.1 ∧ In64 s.2

theorem open_spans {H : Type} {enc : TypeId × Value → H} {w : World} {base : Nat} {spare : Nat → Bool} {held : Bool} {fuel : Nat} {a : Option Addr} {len cap : Nat} {x : DataW H × List MemPlace}
    (h : DataW.trod enc Try.prog w base spare held fuel 23 [.slice a len cap] = some x) : ∃ L, IsSpans w a len L := by
  obtain ⟨_, _, hi⟩ := field_cells (P := Try.prog) (fs := #[_, _]) Try.underlying23 Try.underlying53 (by kernel_rfl) (by kernel_rfl) h
  have key : ∀ i, ∃ s : SpI, (i < len → ∃ b, a = some b ∧ w.cell? (b.add (i * 2)) = some (.int .i64 s.1) ∧ w.cell? ⟨(b.add (i * 2)).block, (b.add (i * 2)).off + 1, none⟩ = some (.int .i64 s.2)) ∧ In64 s.1 ∧ In64 s.2 := by
    intro i
    by_cases hlt : i < len
    · obtain ⟨b, n, hb, hf⟩ := hi i hlt
      obtain ⟨v0, y0, c0, t0⟩ := hf 0 _ rfl
      obtain ⟨v1, y1, c1, t1⟩ := hf 1 _ rfl
      replace c0 : w.cell? (b.add (i * 2)) = _ := c0
      replace c1 : w.cell? (b.add (i * 2 + 1)) = _ := c1
      rw [add_spelt] at c1
      obtain ⟨n0, e0, _, w0⟩ := DataW.trod_int Try.underlying3 t0
      obtain ⟨n1, e1, _, w1⟩ := DataW.trod_int Try.underlying3 t1
      simp only [List.cons.injEq, and_true] at e0 e1
      subst e0 e1
      exact ⟨(n0, n1), fun _ => ⟨b, hb, c0, c1⟩, in64_of w0, in64_of w1⟩
    · exact ⟨(0, 0), fun h => absurd h hlt, ⟨by decide, by decide⟩, ⟨by decide, by decide⟩⟩
  refine ⟨(List.range len).map fun i => (key i).choose, by simp, fun i hi => ?_, fun s hs => ?_⟩
  · have hi' : i < len := by simpa using hi
    have e : ((List.range len).map fun i => (key i).choose).getD i (0, 0) = (key i).choose := by
      simp [List.getD_eq_getElem?_getD, hi']
    rw [e]
    exact (key i).choose_spec.1 hi'
  · simp only [List.mem_map] at hs
    obtain ⟨i, _, rfl⟩ := hs
    exact (key i).choose_spec.2

end Go.Proofs.Ytnknojkihjpjkaa
