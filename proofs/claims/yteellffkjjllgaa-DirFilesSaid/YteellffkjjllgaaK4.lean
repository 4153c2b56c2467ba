/-
  Small words for walking a law: contracts that hold from one world on, a number's kind, and a row of numbers that came in. Conditions: none.
  Rows of spans and of marks in memory, wherever they lie: what their cells hold. Conditions: none.
  A region that draws its order, in which all operations but the last few read, or call what makes at most new memory, and the last few follow one another: walked once, in the text's order. Conditions: as each theorem states them.
  The reference of layer 5: what row, inside and marks answer. Conditions: as each theorem states them.
  The reference of layer 5: what inside and marks answer. Conditions: as each theorem states them.
  The reference of layer 5: what marks answers of a row. Conditions: as each theorem states them.
-/
import Derived.Test.YteellffkjjllgaaK1
import Derived.Test.YteellffkjjllgaaK2
import Derived.Test.YteellffkjjllgaaK3
import Derived.Test.YteellffkjjllgaaRows
import Derived.Test.YteellffkjjllgaaChecked
import Derived.Below
import Derived.Lib.Hide
import Derived.WalkSpells
import Derived.WalkKit
import Derived.ProofKit
import Derived.OpenShut
import Derived.ShutString
import Derived.ChangeOld
import Derived.Deep.QuietTactic
import Derived.Deep.Slices
import Derived.Deep.Fields
import Derived.ChangeSame
import Derived.ChangeSlices
import Derived.StillTail
import Derived.Deep.Quiet
import Derived.BigQuiet
import Derived.RegionTactic
import Derived.BigRegion
import Derived.Laws.MakeOwn
import Derived.WalkSmall
namespace Go.Proofs.Yteellffkjjllgaa
open Go.ChangeShapes Go.WideShapes Go.ChangeAt Go.RowKit

theorem own : ownKnob Try.prog.godebug = none := by kernel_rfl
theorem laidOut : laidOutB Try.prog = true := by kernel_rfl

def IsRow (k : IntKind) (w : World) (a : Option Addr) (len cap : Nat) (zs : List Int) : Prop :=
  (a = none ∧ len = 0 ∧ cap = 0 ∧ zs = []) ∨
  ∃ x, a = some x ∧ len ≤ cap ∧ cap ≤ maxLen ∧ zs.length = cap ∧ (∀ i, i < zs.length → w.cell? (x.add i) = some (.int k (zs.getD i 0))) ∧ ∀ n ∈ zs, (Lit.int k n).wf = true

theorem below_trans {u v w : World} (h : Below u.heap.size u v) (k : Below v.heap.size v w) : Below u.heap.size u w := h.trans (k.mono h.size)

theorem ba {u v : World} (h : Below u.heap.size u v) (o : Obj) : Below u.heap.size u (v.alloc o) := h.alloc h.size o

theorem rel {f : Nat} {args : Array Value} {E : Ending} (h : ∀ w, Calls Try.prog f args w fun e w' => e = E ∧ Below w.heap.size w w') (w : World) : ∀ w1, Below w.heap.size w w1 → Calls Try.prog f args w1 fun e w' => e = E ∧ Below w.heap.size w w' :=
  fun w1 hb => (h w1).mono fun _ _ ⟨he, hw⟩ => ⟨he, below_trans hb hw⟩

theorem relS {f : Nat} {args : Array Value} {E : Ending} (h : ∀ w, Calls Try.prog f args w fun e w' => e = E ∧ w = w') (w : World) : ∀ w1, Below w.heap.size w w1 → Calls Try.prog f args w1 fun e w' => e = E ∧ Below w.heap.size w w' :=
  fun w1 hb => (h w1).mono fun _ _ ⟨he, hw⟩ => ⟨he, hw ▸ hb⟩

theorem extract_take (s : ByteArray) (k : Nat) : s.extract 0 k = ⟨(s.data.toList.take k).toArray⟩ := by
  apply ByteArray.ext
  rw [ByteArray.data_extract]
  apply Array.ext'
  rw [Array.toList_extract, List.extract_eq_take_drop]
  simp

theorem extract_all (s : ByteArray) : s.extract 0 s.size = s := by
  rw [extract_take]
  apply ByteArray.ext
  apply Array.ext'
  exact List.take_of_length_le (by simp)

theorem row_block {w : World} {a : Addr} {v : Value} (h : w.cell? a = some v) : a.block < w.heap.size := by
  by_cases hlt : a.block < w.heap.size
  · exact hlt
  · have hn : w.heap[a.block]? = none := by simp; omega
    simp [World.cell?, hn] at h

theorem nat_of32 {a : Int} (h : (Lit.int .u32 a).wf = true) : ∃ n : Nat, a = (n : Int) ∧ n < 4294967296 := by
  simp only [Lit.wf, Bool.and_eq_true, decide_eq_true_eq] at h
  have h' : 0 ≤ a ∧ a ≤ 4294967295 := h
  exact ⟨a.toNat, by omega, by omega⟩

theorem nat_of8 {a : Int} (h : (Lit.int .u8 a).wf = true) : ∃ n : Nat, a = (n : Int) ∧ n < 256 := by
  simp only [Lit.wf, Bool.and_eq_true, decide_eq_true_eq] at h
  have h' : 0 ≤ a ∧ a ≤ 255 := h
  exact ⟨a.toNat, by omega, by omega⟩

theorem nat_of {a : Int} (h : (Lit.int .u64 a).wf = true) : ∃ n : Nat, a = (n : Int) ∧ n < 18446744073709551616 := by
  simp only [Lit.wf, Bool.and_eq_true, decide_eq_true_eq] at h
  have h' : 0 ≤ a ∧ a ≤ 18446744073709551615 := h
  exact ⟨a.toNat, by omega, by omega⟩

/-- A region that draws its order, whose operations only read and whose callees make at most new memory: walked once, in the text's order. -/
theorem wp_region_below {id : Nat} {Q : Exit → Act → World → Prop} {a : Act} {w0 w : World} {l : List Oper} (hb : Below w0.heap.size w0 w) (hm : Try.prog.follows .mixedOrders = true) (hB : Region.lexB .any l.toArray = true)
    (h : wpQuiet Try.prog l.toArray (fun w' => Below w0.heap.size w0 w') (fun a' => ∀ w', Below w0.heap.size w0 w' → Q .normal a' w') l a) : (Code.region id l.toArray true).wp Try.prog Q a w :=
  wp_region_quiet (C := fun w' => Below w0.heap.size w0 w') hm hB ⟨hb.os, hb.tape, hb.output, hb.size, hb.block⟩ (by simpa using h)

end Go.Proofs.Yteellffkjjllgaa

namespace Go.Rc5

abbrev SpI := Int × Int

def flatI : List SpI → List Value
  | [] => []
  | s :: r => .int .i64 s.1 :: .int .i64 s.2 :: flatI r

def castS (l : List Sp) : List SpI := l.map fun s => ((s.1 : Int), (s.2 : Int))

def bools (B : List Bool) : List Value := B.map Value.bool

def In64 (x : Int) : Prop := -9223372036854775808 ≤ x ∧ x ≤ 9223372036854775807

/-- A row of spans, read. -/
def SpansAt (w : World) (a : Option Addr) (L : List SpI) : Prop :=
  ∀ i, i < L.length → ∃ x, a = some x ∧ w.cell? (x.add (i * 2)) = some (.int .i64 (L.getD i (0, 0)).1) ∧ w.cell? ⟨(x.add (i * 2)).block, (x.add (i * 2)).off + 1, none⟩ = some (.int .i64 (L.getD i (0, 0)).2)

/-- A row of marks, read. -/
def BoolsAt (w : World) (a : Option Addr) (B : List Bool) : Prop := ∀ i, i < B.length → ∃ x, a = some x ∧ w.cell? (x.add i) = some (.bool (B.getD i false))

theorem flatI_length (L : List SpI) : (flatI L).length = L.length * 2 := by
  induction L with
  | nil => rfl
  | cons x r ih => simp [flatI, ih]; omega

theorem flatI_append (p q : List SpI) : flatI (p ++ q) = flatI p ++ flatI q := by
  induction p with
  | nil => rfl
  | cons x r ih => simp [flatI, ih]

theorem flatI_one (L : List SpI) : ∀ u ∈ flatI L, u.oneCell' = true := by
  induction L with
  | nil => intro u hu; cases hu
  | cons x r ih =>
    intro u hu
    simp only [flatI, List.mem_cons] at hu
    rcases hu with rfl | rfl | hu
    · rfl
    · rfl
    · exact ih u hu

theorem flatI_at (L : List SpI) (i : Nat) (h : i < L.length) : (flatI L)[i * 2]? = some (.int .i64 (L.getD i (0, 0)).1) ∧ (flatI L)[i * 2 + 1]? = some (.int .i64 (L.getD i (0, 0)).2) := by
  induction L generalizing i with
  | nil => simp at h
  | cons x r ih =>
    cases i with
    | zero => simp [flatI]
    | succ i =>
      have := ih i (by simpa using h)
      have e1 : (i + 1) * 2 = i * 2 + 1 + 1 := by omega
      rw [e1]
      simpa [flatI] using this

theorem flatI_set1 (L : List SpI) (i : Nat) (h : i < L.length) (v : Int) : (flatI L).set (i * 2 + 1) (.int .i64 v) = flatI (L.set i ((L.getD i (0, 0)).1, v)) := by
  induction L generalizing i with
  | nil => simp at h
  | cons x r ih =>
    cases i with
    | zero => simp [flatI]
    | succ i =>
      have := ih i (by simpa using h)
      have e1 : (i + 1) * 2 + 1 = i * 2 + 1 + 1 + 1 := by omega
      rw [e1]
      simpa [flatI] using this

theorem castS_length (l : List Sp) : (castS l).length = l.length := by simp [castS]
theorem castS_append (l l' : List Sp) : castS (l ++ l') = castS l ++ castS l' := by simp [castS]

theorem rows_app {f : Nat → Bool} {k : Nat} (hf : f k = true) (hn : ¬ (0 < k ∧ f (k - 1) = true)) : castS (rows f (k + 1)) = castS (rows f k) ++ [((k : Int), 1)] := by
  rw [rows, if_pos hf, if_neg hn, castS_append]
  rfl

theorem castS_inj {l l' : List Sp} (h : castS l = castS l') : l = l' := by
  induction l generalizing l' with
  | nil => cases l' with
    | nil => rfl
    | cons s r => simp [castS] at h
  | cons s r ih => cases l' with
    | nil => simp [castS] at h
    | cons t q =>
      simp only [castS, List.map_cons, List.cons.injEq, Prod.mk.injEq] at h
      obtain ⟨⟨h1, h2⟩, h3⟩ := h
      rw [ih h3, Prod.ext (by omega : s.1 = t.1) (by omega : s.2 = t.2)]

theorem bools_get (B : List Bool) (j : Nat) (h : j < B.length) : (bools B)[j]? = some (.bool (B.getD j false)) := by
  simp [bools, List.getElem?_map, List.getElem?_eq_getElem h, List.getD_eq_getElem?_getD]

theorem bools_set (B : List Bool) (j : Nat) (b : Bool) : (bools B).set j (.bool b) = bools (B.set j b) := by simp [bools, List.map_set]

theorem SpansAt.later {w w' : World} {a : Option Addr} {L : List SpI} (h : SpansAt w a L) (hk : ∀ x v, w.cell? x = some v → w'.cell? x = some v) : SpansAt w' a L := by
  intro i hi
  obtain ⟨x, hx, c0, c1⟩ := h i hi
  exact ⟨x, hx, hk _ _ c0, hk _ _ c1⟩

theorem BoolsAt.later {w w' : World} {a : Option Addr} {B : List Bool} (h : BoolsAt w a B) (hk : ∀ x v, w.cell? x = some v → w'.cell? x = some v) : BoolsAt w' a B := by
  intro i hi
  obtain ⟨x, hx, c0⟩ := h i hi
  exact ⟨x, hx, hk _ _ c0⟩

theorem in64_of {x : Int} (h : (Lit.int .i64 x).wf = true) : In64 x := by
  simp only [Lit.wf, Bool.and_eq_true, decide_eq_true_eq] at h
  exact h

end Go.Rc5
namespace Go.Proofs.Yteellffkjjllgaa
open Go.ChangeShapes Go.WideShapes Go.ChangeAt Go.RowKit Go.Rc5 Go.Deep

theorem add_own (g i : Nat) : (⟨g, 0, none⟩ : Addr).add i = ⟨g, i, none⟩ := by unfold Addr.add; split <;> simp_all

theorem SpansAt.below {w w' : World} {a : Option Addr} {L : List SpI} (h : SpansAt w a L) (hb : Below w.heap.size w w') : SpansAt w' a L :=
  h.later fun _ _ hc => (hb.cell (row_block hc)).trans hc

theorem BoolsAt.below {w w' : World} {a : Option Addr} {B : List Bool} (h : BoolsAt w a B) (hb : Below w.heap.size w w') : BoolsAt w' a B :=
  h.later fun _ _ hc => (hb.cell (row_block hc)).trans hc

theorem spans_own {w : World} {base e n : Nat} {a : Option Addr} {c : Nat} {L : List SpI} (h : w.ownsRow base e 2 (.slice a n c) n (flatI L)) : L.length = n ∧ SpansAt w a L := by
  have hl : L.length = n := by have := h.1; rw [flatI_length] at this; omega
  refine ⟨hl, fun i hi => ?_⟩
  rcases h.2 with ⟨_, h0⟩ | ⟨g, cap, cur, hv, _⟩
  · omega
  · simp only [Value.slice.injEq] at hv
    obtain ⟨rfl, _, rfl⟩ := hv
    obtain ⟨h0, h1⟩ := flatI_at L i hi
    refine ⟨_, rfl, ?_, ?_⟩
    · rw [add_own]
      exact (own_cell h h0).1
    · rw [add_own]
      exact (own_cell h h1).1

theorem bools_own {w : World} {base e n : Nat} {a : Option Addr} {c : Nat} {B : List Bool} (h : w.ownsRow base e 1 (.slice a n c) n (bools B)) : B.length = n ∧ BoolsAt w a B := by
  have hl : B.length = n := by have := h.1; simpa [bools] using this
  refine ⟨hl, fun i hi => ?_⟩
  rcases h.2 with ⟨_, h0⟩ | ⟨g, cap, cur, hv, _⟩
  · omega
  · simp only [Value.slice.injEq] at hv
    obtain ⟨rfl, _, rfl⟩ := hv
    refine ⟨_, rfl, ?_⟩
    rw [add_own]
    exact (own_cell h (bools_get B i hi)).1

section
variable {H : Type} {enc : TypeId × Value → H} {P : Program} {w : World} {base : Nat} {spare : Nat → Bool} {held : Bool}

theorem add_spelt (x : Addr) (i j : Nat) : x.add (i + (j + 1)) = ⟨(x.add i).block, (x.add i).off + (j + 1), none⟩ := by
  rw [← add_add]
  rfl

/-- Each field of each element of a row of records lies in a cell of its own, and reads there as its type says. -/
theorem field_cells {t e : TypeId} {fs : Array Field} {fuel : Nat} {a : Option Addr} {len cap : Nat} {x : DataW H × List MemPlace} (ht : P.underlying t = some (.slice e)) (he : P.underlying e = some (.struct fs))
    (hone : oneCellFields P fs = true) (hC : P.cellsOf e = fs.size) (h : DataW.trod enc P w base spare held fuel t [.slice a len cap] = some x) :
    len ≤ cap ∧ cap ≤ maxLen ∧ ∀ i, i < len → ∃ b n, a = some b ∧ ∀ (j : Nat) (f : Field), fs[j]? = some f → ∃ v y, w.cell? (b.add (i * fs.size + j)) = some v ∧ DataW.trod enc P w base spare held n f.type [v] = some y := by
  rcases open_slice ht h with ⟨h0, _⟩ | ⟨b, len', cap', m, n, D, Pl, hcs, _, hl, hm, hmm, _, hi⟩
  · simp only [List.cons.injEq, Value.slice.injEq, and_true] at h0
    obtain ⟨rfl, rfl, rfl⟩ := h0
    exact ⟨Nat.le_refl _, Nat.zero_le _, fun i hi => absurd hi (Nat.not_lt_zero _)⟩
  · simp only [List.cons.injEq, Value.slice.injEq, and_true] at hcs
    obtain ⟨rfl, rfl, rfl⟩ := hcs
    refine ⟨hl, hm, fun i hlt => ?_⟩
    obtain ⟨cs, hc, hr⟩ := hi i (by rw [hmm]; split <;> omega)
    rw [hC] at hc
    obtain ⟨_, hn, hat⟩ := World.cells?_some hc
    obtain ⟨ys, n', _, _, _, hyl, hf⟩ := DataW.trod_struct he hr
    refine ⟨b, n', rfl, fun j f hj => ?_⟩
    have hj' : j < fs.size := (Array.getElem?_eq_some_iff.1 hj).1
    obtain ⟨ho, hk⟩ := hone_of hone j f hj
    have h1 := hf j f hj
    have h2 : (cs.drop j).take 1 = [cs[j]'(by omega)] := by rw [List.drop_eq_getElem_cons (by omega)]; rfl
    have h3 : ys[j]? = some (ys[j]'(by omega)) := List.getElem?_eq_getElem (by omega)
    rw [ho, hk, h2, h3] at h1
    refine ⟨_, _, ?_, h1⟩
    rw [← add_add, hat j hj', List.getElem?_eq_getElem (by omega)]

end

/-- What is known of a row of spans that came in. -/
def IsSpans (w : World) (a : Option Addr) (len : Nat) (L : List SpI) : Prop := L.length = len ∧ SpansAt w a L ∧ ∀ s ∈ L, In64 s.1 ∧ In64 s.2

theorem open_spans {H : Type} {enc : TypeId × Value → H} {w : World} {base : Nat} {spare : Nat → Bool} {held : Bool} {fuel : Nat} {a : Option Addr} {len cap : Nat} {x : DataW H × List MemPlace}
    (h : DataW.trod enc Try.prog w base spare held fuel 33 [.slice a len cap] = some x) : ∃ L, IsSpans w a len L := by
  obtain ⟨_, _, hi⟩ := field_cells (P := Try.prog) (fs := #[_, _]) Try.underlying33 Try.underlying59 (by kernel_rfl) (by kernel_rfl) h
  have key : ∀ i, ∃ s : SpI, (i < len → ∃ b, a = some b ∧ w.cell? (b.add (i * 2)) = some (.int .i64 s.1) ∧ w.cell? ⟨(b.add (i * 2)).block, (b.add (i * 2)).off + 1, none⟩ = some (.int .i64 s.2)) ∧ In64 s.1 ∧ In64 s.2 := by
    intro i
    by_cases hlt : i < len
    · obtain ⟨b, n, hb, hf⟩ := hi i hlt
      obtain ⟨v0, y0, c0, t0⟩ := hf 0 _ rfl
      obtain ⟨v1, y1, c1, t1⟩ := hf 1 _ rfl
      replace c0 : w.cell? (b.add (i * 2)) = _ := c0
      replace c1 : w.cell? (b.add (i * 2 + 1)) = _ := c1
      rw [add_spelt] at c1
      obtain ⟨n0, e0, _, w0⟩ := DataW.trod_int Try.underlying3 t0
      obtain ⟨n1, e1, _, w1⟩ := DataW.trod_int Try.underlying3 t1
      simp only [List.cons.injEq, and_true] at e0 e1
      subst e0 e1
      exact ⟨(n0, n1), fun _ => ⟨b, hb, c0, c1⟩, in64_of w0, in64_of w1⟩
    · exact ⟨(0, 0), fun h => absurd h hlt, ⟨by decide, by decide⟩, ⟨by decide, by decide⟩⟩
  refine ⟨(List.range len).map fun i => (key i).choose, by simp, fun i hi => ?_, fun s hs => ?_⟩
  · have hi' : i < len := by simpa using hi
    have e : ((List.range len).map fun i => (key i).choose).getD i (0, 0) = (key i).choose := by
      simp [List.getD_eq_getElem?_getD, hi']
    rw [e]
    exact (key i).choose_spec.1 hi'
  · simp only [List.mem_map] at hs
    obtain ⟨i, _, rfl⟩ := hs
    exact (key i).choose_spec.2

end Go.Proofs.Yteellffkjjllgaa

namespace Go.Proofs.Yteellffkjjllgaa
open Go.RowKit

section
variable {P : Program} {ops : Array Oper} {md : Region.Mode} {C : World → Prop}

/-- Whatever order is picked among the first n operations; L: what is left to show behind them. -/
def headAny (P : Program) (md : Region.Mode) (ops : Array Oper) (C : World → Prop) (n : Nat) (L : Array Bool → Act → Prop) : Nat → Array Bool → Act → Prop
  | 0, listed, a => L listed a
  | f + 1, listed, a => Region.ready md ops listed ≠ [] ∧ ∀ i ∈ Region.ready md ops listed, i < n ∧ qOp P ops C i (headAny P md ops C n L f (listed.setIfInBounds i true)) a

theorem any_of_headAny {n g : Nat} {L : Array Bool → Act → Prop} {Q' : Exit → Act → World → Prop} (hL : ∀ listed a w, C w → L listed a → wpAny P md ops Q' g listed a w) (f : Nat) :
    ∀ (listed : Array Bool) (a : Act) (w : World), C w → headAny P md ops C n L f listed a → wpAny P md ops Q' (f + g) listed a w := by
  induction f with
  | zero =>
    intro listed a w hw h
    rw [Nat.zero_add]
    exact hL _ _ _ hw h
  | succ f ih =>
    intro listed a w hw h
    rw [Nat.add_right_comm]
    exact ⟨fun h0 => absurd h0 h.1, fun i hi => wpOp_of_qOp hw (fun a' w' hw' h' => ih _ a' w' hw' h') (h.2 i hi).2⟩

/-- An operation of the head that may come up now may be taken first. -/
theorem headAny_first {n i : Nat} {oi : Oper} {v : Value} {L : Array Bool → Act → Prop} (hi : ops[i]? = some oi) (hsel : ∀ (j : Nat) (o : Oper) cs b, ops[j]? = some o → o.op ≠ .select cs b)
    (hs : Region.sinkB md ops n = true) (hc : Region.chainB md ops n = true) (hn : n < ops.size) (hin : i < n) (hdone : ∀ listed a, L listed a → ∀ j ∈ Region.ready md ops listed, n ≤ j) (f : Nat) :
    ∀ (listed : Array Bool) (a : Act), HeadInv md ops n listed →
      (∀ j oj, ops[j]? = some oj → j ≠ i → listed.getD j true = false → (∀ e ∈ oj.after, Region.binds md e = true → e.on ≠ i) → oi.apart ops oj = true) →
      i ∈ Region.ready md ops listed → YieldsIn P ops C oi v a →
      headAny P md ops C n L f (listed.setIfInBounds i true) (a.put oi.dst v) → headAny P md ops C n L (f + 1) listed a := by
  have front : ∀ {listed : Array Bool}, HeadInv md ops n listed → i ∈ Region.ready md ops listed → ∀ j ∈ Region.ready md ops listed, j < n := by
    intro listed inv hr j hj
    by_cases h : j < n
    · exact h
    · exact absurd hj (tail_waits hs hc hn inv _ i rfl hin (mem_ready.1 hr).1 j (by omega))
  induction f with
  | zero =>
    intro listed a inv _ hr hy H
    refine ⟨fun h => (by rw [h] at hr; cases hr), fun j hj => ⟨front inv hr j hj, ?_⟩⟩
    by_cases e : j = i
    · subst e
      exact hy.qOp hi H
    · have h1 := hdone _ _ H j (ready_mono hj e)
      have h2 := front inv hr j hj
      omega
  | succ f ih =>
    intro listed a inv hfree hr hy H
    refine ⟨fun h => (by rw [h] at hr; cases hr), fun j hj => ⟨front inv hr j hj, ?_⟩⟩
    by_cases e : j = i
    · subst e
      exact hy.qOp hi H
    · obtain ⟨hjun, oj, hoj, hall⟩ := mem_ready.1 hj
      have hnot : ∀ x ∈ oj.after, Region.binds md x = true → x.on ≠ i := fun x hx hb heq => by
        have h1 := hall x hx hb
        rw [heq, getD_both (mem_ready.1 hr).1] at h1
        cases h1
      have h2 := qOp_put hoj (hfree j oj hoj e hjun hnot) (fun cs b => hsel i oi cs b hi) (fun cs b => hsel j oj cs b hoj) hy (H.2 j (ready_mono hj e)).2
      refine qOp_mono (fun a' h3 => ih (listed.setIfInBounds j true) a' (inv.set hj (front inv hr j hj)) ?_ (ready_mono hr (Ne.symm e)) h3.1 ?_) h2
      · intro k ok hk hki hun hno
        refine hfree k ok hk hki ?_ hno
        by_cases hjk : j = k
        · subst hjk
          exact hjun
        · rw [getD_set_ne true hjk] at hun
          exact hun
      · rw [Array.setIfInBounds_comm _ _ e]
        exact h3.2

theorem headAny_lex {n g : Nat} {K : Act → Prop} (hsel : Region.noSelect ops = true) (hs : Region.sinkB md ops n = true) (hc : Region.chainB md ops n = true) (hn : n < ops.size) (l : List Oper) :
    ∀ (k : Nat) (listed : Array Bool) (a : Act), (∀ j, j < l.length → l[j]? = ops[k + j]?) → k + l.length = n → HeadInv md ops n listed →
    Region.lexHead md ops g l.length k listed = true → wpQuiet P ops C K l a →
    headAny P md ops C n (fun listed' a' => Region.seqB md ops g n listed' = true ∧ K a') l.length listed a := by
  induction l with
  | nil =>
    intro k listed a _ hk _ hB h
    obtain rfl : k = n := by simpa using hk
    exact ⟨hB, h⟩
  | cons o l ih =>
    intro k listed a hl hk inv hB h
    have h0 : ops[k]? = some o := by simpa using (hl 0 (by simp)).symm
    simp only [List.length_cons, Region.lexHead, Bool.and_eq_true] at hB
    obtain ⟨⟨hr, hf⟩, hB'⟩ := hB
    have hkn : k < n := by simp only [List.length_cons] at hk; omega
    have hr' : k ∈ Region.ready md ops listed := by simpa using hr
    have hst : qOp P ops C k (wpQuiet P ops C K l) a := by unfold qOp; simp only [h0]; exact h
    obtain ⟨v, hy, hK⟩ := yieldsIn_of_qOp h0 hst
    refine headAny_first h0 (Region.noSelect_spec hsel) hs hc hn hkn (fun listed' a' hL => seqB_ready hL.1) l.length listed a inv (Region.free_spec h0 hf) hr' hy ?_
    refine ih (k + 1) _ _ (fun j hj => ?_) (by simp only [List.length_cons] at hk; omega) (inv.set hr' hkn) hB' hK
    have := hl (j + 1) (by simp; omega)
    simpa [Nat.add_assoc, Nat.add_comm 1 j] using this

/-- The head is walked once, quiet in the class C; the tail, from whatever world of the class. -/
theorem wp_region_head {id : Nat} {Q : Exit → Act → World → Prop} {a : Act} {w : World} {l : List Oper} (n : Nat) (hm : P.follows .mixedOrders = true) (hB : Region.lexTailB .any l.toArray n = true) (hC : C { w with drawn := w.drawn + 1 })
    (h : wpQuiet P l.toArray C (fun a' => ∀ w', C w' → wpList P l.toArray Q (l.drop n) a' w') (l.take n) a) : (Code.region id l.toArray true).wp P Q a w := by
  simp only [Region.lexTailB, Bool.and_eq_true, decide_eq_true_eq] at hB
  obtain ⟨⟨⟨⟨hsel, hn⟩, hs⟩, hc⟩, hlex⟩ := hB
  have htl : (l.take n).length = n := by simp only [List.size_toArray] at hn; simp; omega
  have hdl : (l.drop n).length = l.toArray.size - n := by simp
  have inv0 : HeadInv .any l.toArray n (Array.replicate l.toArray.size false) :=
    ⟨by simp, fun j oj _ hl => (by rw [getD_replicate_false] at hl; cases hl), fun t _ ht => getD_in (by simpa using ht) (getD_replicate_false _ _)⟩
  have H := headAny_lex (md := .any) (g := l.toArray.size - n) hsel hs hc hn (l.take n) 0 _ a (fun j hj => by
    have hj' : j < n := by omega
    simp [hj']) (by omega) inv0 (by rw [htl]; exact hlex) h
  refine wp_region_any hm ?_
  have := any_of_headAny (Q' := Q) (g := l.toArray.size - n) (fun listed a' w' hw' hL => by
    have := wpAny_of_seq (md := .any) (Q' := Q) (l.drop n) n listed a' w' (fun j => by simp [List.getElem?_drop]) (by rw [hdl]; exact hL.1) (hL.2 w' hw')
    rwa [hdl] at this) _ _ _ _ hC H
  rw [htl, show n + (l.toArray.size - n) = l.toArray.size by omega] at this
  exact this

end

/-- A world behind w: what was there is there. -/
structure After (w : World) where
  to : World
  is : Below w.heap.size w to

instance (w : World) : Inhabited (After w) := ⟨⟨w, Below.refl _ _⟩⟩

theorem wp_region_after {id : Nat} {Q : Exit → Act → World → Prop} {a : Act} {w : World} {l : List Oper} (hm : Try.prog.follows .mixedOrders = true) (hB : Region.lexB .any l.toArray = true)
    (h : wpQuiet Try.prog l.toArray (fun w' => ∃ p : After w, w' = p.to) (fun a' => ∀ w', (∃ p : After w, w' = p.to) → Q .normal a' w') l a) : (Code.region id l.toArray true).wp Try.prog Q a w :=
  wp_region_quiet (C := fun w' => ∃ p : After w, w' = p.to) hm hB ⟨⟨w.drew, (Below.refl _ w).drew⟩, rfl⟩ (by simpa using h)

theorem wp_region_then {id : Nat} {Q : Exit → Act → World → Prop} {a : Act} {w : World} {l : List Oper} (n : Nat) (hm : Try.prog.follows .mixedOrders = true) (hB : Region.lexTailB .any l.toArray n = true)
    (h : wpQuiet Try.prog l.toArray (fun w' => ∃ p : After w, w' = p.to) (fun a' => ∀ w', (∃ p : After w, w' = p.to) → wpList Try.prog l.toArray Q (l.drop n) a' w') (l.take n) a) : (Code.region id l.toArray true).wp Try.prog Q a w :=
  wp_region_head (C := fun w' => ∃ p : After w, w' = p.to) n hm hB ⟨⟨w.drew, (Below.refl _ w).drew⟩, rfl⟩ h

theorem after_call {f : Nat} {args : Array Value} {v : Value} (h : ∀ w, Calls Try.prog f args w fun e w' => e = .returned v ∧ Below w.heap.size w w') {w : World} (p : After w) :
    Calls Try.prog f args p.to fun e w' => e = .returned v ∧ ∃ q : After w, w' = q.to :=
  (h p.to).mono fun _ w' ⟨he, hw⟩ => ⟨he, ⟨w', p.is.trans (hw.mono p.is.size)⟩, rfl⟩

theorem after_same {f : Nat} {args : Array Value} {v : Value} (h : ∀ w, Calls Try.prog f args w fun e w' => e = .returned v ∧ w = w') {w : World} (p : After w) :
    Calls Try.prog f args p.to fun e w' => e = .returned v ∧ ∃ q : After w, w' = q.to :=
  (h p.to).mono fun _ _ ⟨he, hw⟩ => ⟨he, p, hw.symm⟩

theorem after_cell {w : World} {a : Addr} {v : Value} (h : w.cell? a = some v) (hb : a.block < w.heap.size) (p : After w) : p.to.cell? a = some v := (p.is.cell hb).trans h

end Go.Proofs.Yteellffkjjllgaa

namespace Go.Proofs.Yteellffkjjllgaa
open Go.RowKit Go.Rc5

theorem infoP : (Try.prog.info? 59).map (fun i => (i.zero, i.size, i.bytes)) = some (some (.agg #[.int .i64 0, .int .i64 0]), 2, 16) := by kernel_rfl

/-- A row of spans of the call's own. -/
abbrev spT (v : Value) (L : List SpI) : Thing 0 := rowT 0 59 2 v L.length (flatI L)

set_option maxHeartbeats 4000000 in
theorem rrow_any (B : List Bool) (a : Option Addr) (c n : Nat) (w : World) (h : BoolsAt w a B) (hn : B.length = n) (hB : n ≤ 8192) :
    Calls Try.prog 91 #[.slice a n c] w fun e w' => ∃ v, e = .returned v ∧ Fresh (spT v (castS (rows (fun x => B.getD x false) n))) w w' := by
  have HB := Lib.hid (fun W (hb : Below w.heap.size w W) => BoolsAt.below h hb)
  have HN := Lib.hid hn
  have H0 := Lib.hid ((Crew.start w).nil 59 2)
  clear h hn
  generalize hf : (fun x => B.getD x false) = f at *
  have HF := Lib.hid hf
  clear hf
  go_enter Try.func91, Try.ntmps91
  go_wp2
  go_loopw [3, 4] (fun v i wr => ∃ k : Nat, i = .int .i64 k ∧ k ≤ n ∧ Crew (fun _ => False) w [spT v (castS (rows f k))] wr) (fun _ i _ => (n - intOf i).toNat)
  case atStart => exact ⟨0, rfl, Nat.zero_le _, H0.out⟩
  case round =>
    obtain ⟨k, rfl, hk, hC⟩ := hrel
    obtain ⟨av, cv, rfl⟩ := hC.slice 0 rfl
    have HC := Lib.hid hC
    by_cases hlt : k < n
    · have hltI : (k : Int) < n := by omega
      obtain ⟨x, rfl, c0⟩ := HB.out wr hC.bel k (by rw [HN.out]; exact hlt)
      have e0 : B.getD k false = f k := by rw [← HF.out]
      rw [e0] at c0
      clear e0
      cases hfk : f k with
      | false =>
        rw [hfk] at c0
        have HR : Hid (rows f (k + 1) = rows f k) := by rw [rows, hfk, if_neg (by decide)]; exact rfl
        clear hC hfk
        go_wp2
        refine ⟨⟨k + 1, by go_num, by omega, ?_⟩, by simp [intOf]; omega⟩
        rw [HR.out]
        exact HC.out
      | true =>
        rw [hfk] at c0
        have HFK := Lib.hid hfk
        rcases Nat.eq_zero_or_pos k with hk0 | hk0
        · subst hk0
          have c0' : wr.cell? x = some (.bool true) := c0
          clear hfk c0 hltI
          have hltI : (0 : Int) < n := by omega
          have HR := Lib.hid (rows_app (k := 0) HFK.out (fun h => absurd h.1 (Nat.lt_irrefl _)))
          have hq := rows_len f 0
          rw [← castS_length] at hq
          generalize castS (rows f 0) = R at *
          obtain ⟨q, hQ⟩ : ∃ q, R.length = q := ⟨_, rfl⟩
          have HC' : Hid (Crew (fun _ => False) w [rowT 0 59 2 (.slice av q cv) q (flatI R)] wr) := by rw [← hQ]; exact HC.out
          rw [hQ] at hq ⊢
          have HQ := Lib.hid hQ
          clear hQ hC HC
          have HE := Lib.hid (HC'.out.below ((Below.refl _ wr).alloc (Nat.le_refl _) (.cells #[.int .i64 (0), .int .i64 1] 59)))
          go_wp2_with (at_builtin; refine wpList_append_crew HE.out 0 rfl rfl (.tmp 39) (.tmp 42) 33 rfl (.agg #[.int .i64 0, .int .i64 0]) 16 Try.underlying33 infoP rfl (by decide) rfl ⟨wr.heap.size, 0, none⟩ 1 1 [.int .i64 (0), .int .i64 1] rfl rfl ?c1 ?c2 ?b1 ?b2 ?next)
          case c1 =>
            intro j u hu
            rw [add_own, World.cell?_alloc_new]
            simpa using hu
          case c2 => intro u hu; simp at hu; rcases hu with rfl | rfl <;> rfl
          case b1 => unfold maxLen; omega
          case b2 => omega
          case next =>
            intro v' w2 hF
            have HF2 : Hid (Crew (fun _ => False) w [spT v' (castS (rows f (0 + 1)))] w2) := by
              rw [HR.out]
              show Crew _ w [rowT 0 59 2 _ (R ++ [_]).length (flatI (R ++ [_]))] w2
              rw [flatI_append, List.length_append, HQ.out]
              exact hF
            clear hF
            go_wp2
            exact ⟨⟨0 + 1, by go_num, by omega, HF2.out⟩, by simp [intOf]; omega⟩
        · obtain ⟨x', ex, c1⟩ := HB.out wr hC.bel (k - 1) (by rw [HN.out]; omega)
          cases ex
          have e0 : B.getD (k - 1) false = f (k - 1) := by rw [← HF.out]
          rw [e0] at c1
          have hkI : (0 : Int) < k := by omega
          have hk1 : (0 : Int) ≤ (k : Int) - 1 := by omega
          have hk2 : (k : Int) - 1 < n := by omega
          have HK0 := Lib.hid hk0
          cases hfm : f (k - 1) with
          | false =>
            rw [hfm] at c1
            have HFM := Lib.hid hfm
            clear hfm e0 hfk hk0
            have HR := Lib.hid (rows_app (k := k) HFK.out (fun h => by rw [HFM.out] at h; cases h.2))
            have hq := rows_len f k
            rw [← castS_length] at hq
            generalize castS (rows f k) = R at *
            obtain ⟨q, hQ⟩ : ∃ q, R.length = q := ⟨_, rfl⟩
            have HC' : Hid (Crew (fun _ => False) w [rowT 0 59 2 (.slice av q cv) q (flatI R)] wr) := by rw [← hQ]; exact HC.out
            rw [hQ] at hq ⊢
            have HQ := Lib.hid hQ
            clear hQ hC HC
            have HE := Lib.hid (HC'.out.below ((Below.refl _ wr).alloc (Nat.le_refl _) (.cells #[.int .i64 ((k : Int)), .int .i64 1] 59)))
            go_wp2_with (at_builtin; refine wpList_append_crew HE.out 0 rfl rfl (.tmp 39) (.tmp 42) 33 rfl (.agg #[.int .i64 0, .int .i64 0]) 16 Try.underlying33 infoP rfl (by decide) rfl ⟨wr.heap.size, 0, none⟩ 1 1 [.int .i64 ((k : Int)), .int .i64 1] rfl rfl ?c1 ?c2 ?b1 ?b2 ?next)
            case c1 =>
              intro j u hu
              rw [add_own, World.cell?_alloc_new]
              simpa using hu
            case c2 => intro u hu; simp at hu; rcases hu with rfl | rfl <;> rfl
            case b1 => unfold maxLen; omega
            case b2 => omega
            case next =>
              intro v' w2 hF
              have HF2 : Hid (Crew (fun _ => False) w [spT v' (castS (rows f (k + 1)))] w2) := by
                rw [HR.out]
                show Crew _ w [rowT 0 59 2 _ (R ++ [_]).length (flatI (R ++ [_]))] w2
                rw [flatI_append, List.length_append, HQ.out]
                exact hF
              clear hF
              go_wp2
              exact ⟨⟨k + 1, by go_num, by omega, HF2.out⟩, by simp [intOf]; omega⟩
          | true =>
            rw [hfm] at c1
            obtain ⟨l, s, z, er, _, _⟩ := (rows_ok f k).last hk0 hfm
            have HR : Hid (castS (rows f (k + 1)) = castS l ++ [((s : Int), (z : Int) + 1)]) := by
              rw [rows, HFK.out, if_pos rfl, if_pos ⟨hk0, hfm⟩, er, bump_snoc, castS_append]
              exact rfl
            have er2 : castS (rows f k) = castS l ++ [((s : Int), (z : Int))] := by rw [er, castS_append]; rfl
            have hq := rows_len f k
            rw [← castS_length, er2] at hq
            rw [er2] at HC ⊢
            have hz : (z : Int) ≤ 8192 := by omega
            generalize castS l = R at *
            obtain ⟨q, hQ⟩ : ∃ q, R.length = q := ⟨_, rfl⟩
            have hlen : (R ++ [((s : Int), (z : Int))]).length = q + 1 := by simp [hQ]
            have HC' : Hid (Crew (fun _ => False) w [rowT 0 59 2 (.slice av (q + 1) cv) (q + 1) (flatI (R ++ [((s : Int), (z : Int))]))] wr) := by rw [← hlen]; exact HC.out
            rw [hlen] at hq ⊢
            obtain ⟨g, cv', e⟩ := HC'.out.held 0 rfl (Nat.succ_pos _)
            simp only [Value.slice.injEq, true_and] at e
            obtain ⟨rfl, rfl⟩ := e
            have hat := (flatI_at (R ++ [((s : Int), (z : Int))]) q (by omega)).2
            have hgq : (R ++ [((s : Int), (z : Int))]).getD q (0, 0) = ((s : Int), (z : Int)) := by simp [List.getD_eq_getElem?_getD, ← hQ]
            rw [hgq] at hat
            obtain ⟨d0, d1⟩ := HC'.out.cell 0 rfl hat
            have hset := HC'.out.put 0 rfl (q * 2 + 1) (.int .i64 ((z : Int) + 1))
            rw [flatI_set1 _ q (by omega), hgq] at hset
            have HF2 : Hid (Crew (fun _ => False) w [spT (.slice (some ⟨g, 0, none⟩) (q + 1) cv) (castS (rows f (k + 1)))] (wr.setCell ⟨g, q * 2 + 1, none⟩ (.int .i64 ((z : Int) + 1)))) := by
              have e : (R ++ [((s : Int), (z : Int))]).set q ((s : Int), (z : Int) + 1) = R ++ [((s : Int), (z : Int) + 1)] := by rw [← hQ]; simp
              rw [e] at hset
              rw [HR.out]
              show Crew _ w [rowT 0 59 2 _ (R ++ [_]).length _] _
              rw [show (R ++ [((s : Int), (z : Int) + 1)]).length = q + 1 by simp [hQ]]
              exact hset
            clear er er2 hfm hC HC HC' hset hat hgq hlen hQ e0 hfk hk0
            go_wp2
            exact ⟨⟨k + 1, by go_num, by omega, HF2.out⟩, by simp [intOf]; omega⟩
    · have hltI : ¬ (k : Int) < n := by omega
      obtain rfl : k = n := by omega
      clear hC
      go_wp2
      go_ret
      exact ⟨_, rfl, HC.out.fresh⟩

end Go.Proofs.Yteellffkjjllgaa

namespace Go.Rc5

/-- Has a span sectors, all below size? -/
def insB (s : SpI) (size : Int) : Bool := decide (1 ≤ s.2) && (decide (0 ≤ s.1) && (decide (s.1 < size) && decide (s.2 ≤ size - s.1)))

theorem insB_iff (s : SpI) (size : Int) : insB s size = true ↔ 1 ≤ s.2 ∧ 0 ≤ s.1 ∧ s.1 < size ∧ s.2 ≤ size - s.1 := by simp [insB]

/-- What is wrong with a row, whatever its sectors: the size, or a span. -/
def Bad (L : List SpI) (size : Int) : Prop := size < 1 ∨ 8192 < size ∨ ∃ s ∈ L, insB s size = false

structure Fits (L : List SpI) (N : List Sp) (n : Nat) : Prop where
  lo : 1 ≤ n
  hi : n ≤ 8192
  eq : L = castS N
  some : ∀ s ∈ N, 1 ≤ s.2
  fit : ∀ s ∈ N, s.1 + s.2 ≤ n

theorem bad_or_fits (L : List SpI) (size : Int) : Bad L size ∨ ∃ N n, size = ((n : Nat) : Int) ∧ Fits L N n := by
  by_cases h1 : size < 1
  · exact .inl (.inl h1)
  by_cases h2 : 8192 < size
  · exact .inl (.inr (.inl h2))
  by_cases h3 : ∃ s ∈ L, insB s size = false
  · exact .inl (.inr (.inr h3))
  have h3' : ∀ s ∈ L, insB s size = true := fun s hs => by
    cases e : insB s size with
    | true => rfl
    | false => exact absurd ⟨s, hs, e⟩ h3
  refine .inr ⟨L.map fun s => (s.1.toNat, s.2.toNat), size.toNat, by omega, by omega, by omega, ?_, ?_, ?_⟩
  · simp only [castS, List.map_map]
    symm
    have e : ∀ s ∈ L, ((fun s : Sp => ((s.1 : Int), (s.2 : Int))) ∘ fun s : SpI => (s.1.toNat, s.2.toNat)) s = id s := by
      intro s hs
      have := (insB_iff s size).1 (h3' s hs)
      exact Prod.ext (by show ((s.1.toNat : Nat) : Int) = s.1; omega) (by show ((s.2.toNat : Nat) : Int) = s.2; omega)
    exact (List.map_congr_left e).trans (List.map_id L)
  · intro s hs
    simp only [List.mem_map] at hs
    obtain ⟨t, ht, rfl⟩ := hs
    have := (insB_iff t size).1 (h3' t ht)
    show 1 ≤ t.2.toNat
    omega
  · intro s hs
    simp only [List.mem_map] at hs
    obtain ⟨t, ht, rfl⟩ := hs
    have := (insB_iff t size).1 (h3' t ht)
    show t.1.toNat + t.2.toNat ≤ size.toNat
    omega

/-- The marks of f below n. -/
def bl (f : Nat → Bool) (n : Nat) : List Bool := (List.range n).map f

theorem bl_length (f : Nat → Bool) (n : Nat) : (bl f n).length = n := by simp [bl]
theorem bl_get (f : Nat → Bool) (n x : Nat) (h : x < n) : (bl f n).getD x false = f x := by simp [bl, List.getD_eq_getElem?_getD, h]
theorem bl_set (f : Nat → Bool) (n x : Nat) (b : Bool) : (bl f n).set x b = bl (fun y => if y = x then b else f y) n := by
  apply List.ext_getElem?
  intro j
  simp only [bl, List.getElem?_set, List.length_map, List.length_range, List.getElem?_map]
  by_cases hj : j < n
  · by_cases e : x = j
    · subst e; simp [hj]
    · have e' : ¬ j = x := fun h => e h.symm
      simp [hj, e, e']
  · by_cases e : x = j
    · subst e; simp [hj]
    · simp [hj, e]
theorem bl_congr {f g : Nat → Bool} {n : Nat} (h : ∀ x, x < n → f x = g x) : bl f n = bl g n := by
  unfold bl
  exact List.map_congr_left (fun x hx => h x (by simpa using hx))

theorem castS_getD (N : List Sp) (i : Nat) : (castS N).getD i (0, 0) = (((N.getD i (0, 0)).1 : Int), ((N.getD i (0, 0)).2 : Int)) := by
  simp only [castS, List.getD_eq_getElem?_getD, List.getElem?_map]
  cases N[i]? <;> rfl

theorem take_snoc {α : Type} (l : List α) (k : Nat) (z : α) (h : k < l.length) : l.take (k + 1) = l.take k ++ [l.getD k z] := by
  rw [List.take_add_one, List.getElem?_eq_getElem h]
  simp [List.getD_eq_getElem?_getD, h]

theorem apart_symm {s t : Sp} (h : Apart s t) : Apart t s := by
  intro x hx
  rw [Bool.eq_false_iff]
  intro e
  rw [h x e] at hx
  cases hx

end Go.Rc5
namespace Go.Proofs.Yteellffkjjllgaa
open Go.RowKit Go.Rc5

set_option maxHeartbeats 2000000 in
theorem rinside_any (s : SpI) (size : Int) (h0 : 1 ≤ size) (h1 : size ≤ 8192) (w : World) :
    Calls Try.prog 100 #[.agg #[.int .i64 s.1, .int .i64 s.2], .int .i64 size] w fun e w' => e = .returned (.bool (insB s size)) ∧ Below w.heap.size w w' := by
  obtain ⟨a, m⟩ := s
  dsimp only
  have HE : Hid (insB (a, m) size = (decide (1 ≤ m) && (decide (0 ≤ a) && (decide (a < size) && decide (m ≤ size - a))))) := rfl
  by_cases b1 : 1 ≤ m
  · by_cases b2 : 0 ≤ a
    · by_cases b3 : a < size
      · by_cases b4 : m ≤ size - a
        · go_enter Try.func100, Try.ntmps100
          go_wp2
          go_ret
          exact ⟨by rw [HE.out]; simp [b1, b2, b3, b4], (Below.refl _ _).alloc (Nat.le_refl _) _⟩
        · go_enter Try.func100, Try.ntmps100
          go_wp2
          go_ret
          exact ⟨by rw [HE.out]; simp; omega, (Below.refl _ _).alloc (Nat.le_refl _) _⟩
      · go_enter Try.func100, Try.ntmps100
        go_wp2
        go_ret
        exact ⟨by rw [HE.out]; simp; omega, (Below.refl _ _).alloc (Nat.le_refl _) _⟩
    · go_enter Try.func100, Try.ntmps100
      go_wp2
      go_ret
      exact ⟨by rw [HE.out]; simp; omega, (Below.refl _ _).alloc (Nat.le_refl _) _⟩
  · go_enter Try.func100, Try.ntmps100
    go_wp2
    go_ret
    exact ⟨by rw [HE.out]; simp; omega, (Below.refl _ _).alloc (Nat.le_refl _) _⟩

end Go.Proofs.Yteellffkjjllgaa

namespace Go.Proofs.Yteellffkjjllgaa
open Go.RowKit Go.Rc5

theorem make_own {t e : TypeId} {z : Value} {bytes : Nat} (ht : Try.prog.underlying t = some (.slice e)) (hi : (Try.prog.info? e).map (fun i => (i.zero, i.size, i.bytes)) = some (some z, 1, bytes)) (hz : z.cells = #[z])
    (n : Nat) (hb : (bytes : Int) * (n : Int) ≤ 281474976710656) (hn : (n : Int) ≤ 9223372036854775807) (w : World) :
    (Instr.makeSlice t (.int .i64 (n : Int)) (.int .i64 (n : Int))).run Try.prog w = .ok (.slice (some ⟨w.heap.size, 0, none⟩) n n) (w.alloc (.cells (List.replicate n z).toArray e)) := by
  obtain ⟨i, h1, h2, h3, h4⟩ := info_parts hi
  subst h4
  have := run_make (P := Try.prog) w t e i z ht h1 h2 .i64 .i64 (n : Int) (n : Int) (by omega) (by omega) hb hn
  rw [this, h3, hz]
  have e2 : madeCells #[z] n = (List.replicate n z).toArray := by
    apply Array.ext'
    rw [toList_madeCells_one]
  simp [e2]

/-- A row of marks of the call's own. -/
abbrev blT (v : Value) (B : List Bool) (n : Nat) : Thing 0 := rowT 0 4 1 v n (bools B)

set_option maxHeartbeats 2000000 in
theorem rmarks_bad (L : List SpI) (a : Option Addr) (c len : Nat) (size : Int) (w : World) (h : SpansAt w a L) (hl : L.length = len) (hlen : len ≤ 100000) (hb : Bad L size) :
    Calls Try.prog 90 #[.slice a len c, .int .i64 size] w fun e w' => e = .returned (.tuple #[.slice none 0 0, .int .i64 11]) ∧ Below w.heap.size w w' := by
  by_cases b1 : size < 1
  · clear h hb
    go_enter Try.func90, Try.ntmps90
    go_wp2
    go_ret2
    exact ⟨rfl, Below.refl _ _⟩
  by_cases b2 : 8192 < size
  · clear h hb
    go_enter Try.func90, Try.ntmps90
    go_wp2
    go_ret2
    exact ⟨rfl, Below.refl _ _⟩
  have hex : ∃ s ∈ L, insB s size = false := by
    rcases hb with h | h | h
    · exact absurd h b1
    · exact absurd h b2
    · exact h
  have HX := Lib.hid hex
  have HS := Lib.hid (fun W (hb : Below w.heap.size w W) => SpansAt.below h hb)
  have HL := Lib.hid hl
  have HI := Lib.hid (fun s W => rinside_any s size (by omega) (by omega) W)
  clear h hb hex hl
  go_enter Try.func90, Try.ntmps90
  go_wp2
  go_loopw [6] (fun i wr => ∃ k : Nat, i = .int .i64 k ∧ k ≤ len ∧ (∀ j, j < k → insB (L.getD j (0, 0)) size = true) ∧ Below w.heap.size w wr) (fun i _ => (len - intOf i).toNat)
  case atStart => exact ⟨0, rfl, Nat.zero_le _, fun j hj => absurd hj (Nat.not_lt_zero _), Below.refl _ _⟩
  case round =>
    obtain ⟨k, rfl, hk, hall, hB⟩ := hrel
    have HA := Lib.hid hall
    clear hall
    by_cases hlt : k < len
    · have hltI : (k : Int) < len := by omega
      obtain ⟨x, rfl, c0, c1⟩ := HS.out wr hB k (by rw [HL.out]; exact hlt)
      have HC := Lib.hid (HI.out (L.getD k (0, 0)) wr)
      cases hins : insB (L.getD k (0, 0)) size with
      | true =>
        rw [hins] at HC
        have HINS := Lib.hid hins
        clear hins
        generalize L.getD k (0, 0) = s at c0 c1 HC
        obtain ⟨s1, s2⟩ := s
        dsimp only at c0 c1
        go_wp2_with fail
        refine HC.out.mono ?_
        rintro e w1 ⟨rfl, hb1⟩
        have HB := Lib.hid (hB.trans (hb1.mono hB.size))
        clear hb1 HC
        go_wp2
        refine ⟨⟨k + 1, by go_num, by omega, fun j hj => ?_, HB.out⟩, by simp [intOf]; omega⟩
        by_cases e : j = k
        · subst e
          exact HINS.out
        · exact HA.out j (by omega)
      | false =>
        rw [hins] at HC
        clear hins
        generalize L.getD k (0, 0) = s at c0 c1 HC
        obtain ⟨s1, s2⟩ := s
        dsimp only at c0 c1
        go_wp2_with fail
        refine HC.out.mono ?_
        rintro e w1 ⟨rfl, hb1⟩
        have HB := Lib.hid (hB.trans (hb1.mono hB.size))
        clear hb1 HC
        go_wp2
        go_ret2
        exact ⟨rfl, HB.out⟩
    · exfalso
      obtain ⟨s, hs, hf⟩ := HX.out
      obtain ⟨j, hj, e⟩ := List.getElem_of_mem hs
      have hj' : j < k := by have := HL.out; omega
      have := HA.out j hj'
      rw [List.getD_eq_getElem?_getD, List.getElem?_eq_getElem hj, e] at this
      rw [show (some s).getD ((0 : Int), (0 : Int)) = s from rfl, hf] at this
      cases this

/-- What marks answers of a row of which each span is inside. -/
def MarksAt (N : List Sp) (n : Nat) (w : World) (e : Ending) (w' : World) : Prop :=
  (e = .returned (.tuple #[.slice none 0 0, .int .i64 5]) ∧ ¬ N.Pairwise Apart ∧ Below w.heap.size w w') ∨
  ∃ v, e = .returned (.tuple #[v, .int .i64 0]) ∧ N.Pairwise Apart ∧ Fresh (blT v (bl (memB N) n) n) w w'

set_option maxHeartbeats 8000000 in
theorem rmarks_good (L : List SpI) (N : List Sp) (n : Nat) (a : Option Addr) (c len : Nat) (w : World) (h : SpansAt w a L) (hl : L.length = len) (hlen : len ≤ 100000) (hg : Fits L N n) :
    Calls Try.prog 90 #[.slice a len c, .int .i64 n] w (MarksAt N n w) := by
  have hlo := hg.lo
  have hhi := hg.hi
  have hnl : N.length = len := by rw [← hl, hg.eq, castS_length]
  have HI := Lib.hid (fun s W => rinside_any s (n : Int) (by omega) (by omega) W)
  have HS := Lib.hid (fun W (hb : Below w.heap.size w W) => SpansAt.below h hb)
  have HIN : Hid (∀ k, k < len → insB ((castS N).getD k (0, 0)) n = true) := fun k hk => by
    rw [castS_getD, insB_iff]
    have hm : N.getD k (0, 0) ∈ N := by
      rw [List.getD_eq_getElem?_getD, List.getElem?_eq_getElem (by omega)]
      exact List.getElem_mem _
    have h1 := hg.some _ hm
    have h2 := hg.fit _ hm
    dsimp only
    omega
  have HFIT : Hid (∀ k, k < len → 1 ≤ (N.getD k (0, 0)).2 ∧ (N.getD k (0, 0)).1 + (N.getD k (0, 0)).2 ≤ n) := fun k hk => by
    have hm : N.getD k (0, 0) ∈ N := by
      rw [List.getD_eq_getElem?_getD, List.getElem?_eq_getElem (by omega)]
      exact List.getElem_mem _
    exact ⟨hg.some _ hm, hg.fit _ hm⟩
  rw [hg.eq] at HS
  have HNL := Lib.hid hnl
  have hLen : (castS N).length = len := by rw [castS_length]; exact hnl
  have HLL := Lib.hid hLen
  clear h hl hg hnl hLen
  have hI1 : ¬ (n : Int) < 1 := by omega
  have hI2 : ¬ (8192 : Int) < n := by omega
  have hmk := fun W => make_own (t := 107) (e := 4) (z := .bool false) (bytes := 1) Try.underlying107 (by kernel_rfl) rfl n (by omega) (by omega) W
  have hrep : (List.replicate n (Value.bool false)) = bools (bl (memB []) n) := by
    unfold bools bl
    apply List.ext_getElem?
    intro j
    simp only [List.getElem?_replicate, List.getElem?_map]
    by_cases hj : j < n
    · simp [hj, memB_nil]
    · simp [hj]
  rw [hrep] at hmk
  obtain ⟨C, hC⟩ : ∃ C, C = (bools (bl (memB []) n)).toArray := ⟨_, rfl⟩
  rw [← hC] at hmk
  have HC0 := Lib.hid hC
  clear hC hrep
  go_enter Try.func90, Try.ntmps90
  go_wp2
  go_loopw [6] (fun i wr => ∃ k : Nat, i = .int .i64 k ∧ k ≤ len ∧ Below w.heap.size w wr) (fun i _ => (len - intOf i).toNat)
  case atStart => exact ⟨0, rfl, Nat.zero_le _, Below.refl _ _⟩
  case round =>
    obtain ⟨k, rfl, hk, hB⟩ := hrel
    by_cases hlt : k < len
    · have hltI : (k : Int) < len := by omega
      obtain ⟨x, rfl, c0, c1⟩ := HS.out wr hB k (by rw [HLL.out]; exact hlt)
      have HC := Lib.hid (HI.out ((castS N).getD k (0, 0)) wr)
      rw [HIN.out k hlt] at HC
      generalize (castS N).getD k (0, 0) = s at *
      obtain ⟨s1, s2⟩ := s
      dsimp only at c0 c1
      go_wp2_with fail
      refine HC.out.mono ?_
      rintro e w1 ⟨rfl, hb1⟩
      have HB := Lib.hid (hB.trans (hb1.mono hB.size))
      clear hb1 HC
      go_wp2
      exact ⟨⟨k + 1, by go_num, by omega, HB.out⟩, by simp [intOf]; omega⟩
    · have hltI : ¬ (k : Int) < len := by omega
      have hF0 := ((Crew.start w).below hB).made C 4 n (by rw [HC0.out]; simp [bools, bl]) (by omega)
      have e0 : C.toList = bools (bl (memB []) n) := by rw [HC0.out]
      rw [e0] at hF0
      have HF0 := Lib.hid hF0
      clear hF0 e0 hB
      go_wp2
      clear hmk
      generalize wr.heap.size = g at HF0 ⊢
      go_loopw [8, 9] (fun i _ wq => ∃ k : Nat, i = .int .i64 k ∧ k ≤ len ∧ (N.take k).Pairwise Apart ∧ Crew (fun _ => False) w [blT (.slice (some ⟨g, 0, none⟩) n n) (bl (memB (N.take k)) n) n] wq) (fun i _ _ => (len - intOf i).toNat)
      case atStart => exact ⟨0, rfl, Nat.zero_le _, List.Pairwise.nil, HF0.out⟩
      case round =>
        obtain ⟨k, rfl, hk, hpw, hF⟩ := hrel
        have HPW := Lib.hid hpw
        have HF1 := Lib.hid hF
        clear hpw hF
        by_cases hlt2 : k < len
        · have hltI2 : (k : Int) < len := by omega
          obtain ⟨x, rfl, c0, c1⟩ := HS.out wr HF1.out.bel k (by rw [HLL.out]; exact hlt2)
          rw [castS_getD] at c0 c1
          have HT := Lib.hid (take_snoc N k (0, 0) (by rw [HNL.out]; exact hlt2))
          have hfit := HFIT.out k hlt2
          generalize hsk : N.getD k (0, 0) = s at *
          have HSK := Lib.hid hsk
          clear hsk
          obtain ⟨s1, s2⟩ := s
          dsimp only at c0 c1 hfit
          go_wp2
          go_loopw [9] (fun i wq => ∃ y : Nat, i = .int .i64 y ∧ s1 ≤ y ∧ y ≤ s1 + s2 ∧ (∀ z, s1 ≤ z → z < y → memB (N.take k) z = false) ∧ Crew (fun _ => False) w [blT (.slice (some ⟨g, 0, none⟩) n n) (bl (fun z => memB (N.take k) z || inB (s1, y - s1) z) n) n] wq) (fun i _ => ((s1 : Int) + s2 - intOf i).toNat)
          case atStart =>
            refine ⟨s1, rfl, Nat.le_refl _, by omega, fun z h1 h2 => absurd h2 (by omega), ?_⟩
            have e : bl (fun z => memB (N.take k) z || inB (s1, s1 - s1) z) n = bl (memB (N.take k)) n := bl_congr fun z _ => by
              have : inB (s1, s1 - s1) z = false := by
                rw [Bool.eq_false_iff]
                intro e
                have := (inB_iff _ _).1 e
                dsimp only at this
                omega
              rw [this, Bool.or_false]
            rw [e]
            exact HF1.out
          case round =>
            obtain ⟨y, rfl, hy1, hy2, hfree, hF⟩ := hrel
            obtain ⟨x', ex, c0, c1⟩ := HS.out wr hF.bel k (by rw [HLL.out]; exact hlt2)
            cases ex
            rw [castS_getD] at c0 c1
            rw [HSK.out] at c0 c1
            dsimp only at c0 c1
            have HFR := Lib.hid hfree
            have HF2 := Lib.hid hF
            clear hfree hF
            by_cases hlt3 : y < s1 + s2
            · have hltI3 : (y : Int) < (s1 : Int) + s2 := by omega
              have hyn : y < n := by omega
              have hynI : (y : Int) < n := by omega
              have hno : inB (s1, y - s1) y = false := by
                rw [Bool.eq_false_iff]
                intro e
                have := (inB_iff _ _).1 e
                dsimp only at this
                omega
              have HNO := Lib.hid hno
              clear hno
              obtain ⟨d0, d1⟩ := HF2.out.cell 0 rfl (bools_get _ y (by rw [bl_length]; exact hyn))
              rw [bl_get _ _ _ hyn, HNO.out, Bool.or_false] at d0
              cases hm : memB (N.take k) y with
              | true =>
                rw [hm] at d0
                have HM := Lib.hid hm
                clear hm
                go_wp2_with fail
                go_quiet (fail)
                have HBQ := Lib.hid (below_drewN (Below.refl wr.heap.size wr) nq)
                have d0' : (wr.drewN nq).cell? ⟨g, y, none⟩ = some (.bool true) := d0
                clear c0 c1 d0 d1
                generalize wr.drewN nq = wq at *
                go_wp2
                go_ret2
                refine .inl ⟨rfl, fun hp => ?_, HF2.out.bel.trans (HBQ.out.mono HF2.out.bel.size)⟩
                have h2 : (N.take (k + 1)).Pairwise Apart := hp.sublist (List.take_sublist _ _)
                rw [HT.out, List.pairwise_append] at h2
                have h3 := HM.out
                rw [memB, List.any_eq_true] at h3
                obtain ⟨t, ht, hi⟩ := h3
                have h4 := h2.2.2 t ht (s1, s2) (by simp) y hi
                have h5 : inB (s1, s2) y = true := (inB_iff _ _).2 ⟨hy1, hlt3⟩
                rw [h5] at h4
                cases h4
              | false =>
                rw [hm] at d0
                have HM := Lib.hid hm
                clear hm
                have hset := HF2.out.put 0 rfl y (.bool true)
                rw [bools_set, bl_set] at hset
                have e : bl (fun z => if z = y then true else memB (N.take k) z || inB (s1, y - s1) z) n = bl (fun z => memB (N.take k) z || inB (s1, y + 1 - s1) z) n := bl_congr fun z _ => by
                  have e2 : inB (s1, y + 1 - s1) z = (decide (z = y) || inB (s1, y - s1) z) := by
                    rw [Bool.eq_iff_iff, Bool.or_eq_true, inB_iff, inB_iff, decide_eq_true_eq]
                    dsimp only
                    omega
                  rw [e2]
                  by_cases ez : z = y
                  · simp [ez]
                  · simp [ez]
                rw [e] at hset
                clear e
                have HF3 := Lib.hid hset
                clear hset
                go_wp2_with fail
                go_quiet (fail)
                have HBQ : Hid (Crew (fun _ => False) w [blT (.slice (some ⟨g, 0, none⟩) n n) (bl (fun z => memB (N.take k) z || inB (s1, y + 1 - s1) z) n) n] ((wr.drewN nq).setCell ⟨g, y, none⟩ (.bool true))) := HF3.out.below (below_drewN (Below.refl _ _) nq)
                have d0' : (wr.drewN nq).cell? ⟨g, y, none⟩ = some (.bool false) := d0
                have d1' : (wr.drewN nq).frozen? ⟨g, y, none⟩ = false := d1
                clear HF3 HF2 c0 c1 d0 d1
                generalize wr.drewN nq = wq at *
                go_wp2
                refine ⟨⟨y + 1, by go_num, by omega, by omega, fun z h1 h2 => ?_, HBQ.out⟩, by simp [intOf]; omega⟩
                by_cases e : z = y
                · subst e
                  exact HM.out
                · exact HFR.out z h1 (by omega)
            · have hltI3 : ¬ (y : Int) < (s1 : Int) + s2 := by omega
              have hye : y - s1 = s2 := by omega
              have HYE := Lib.hid hye
              clear hye
              go_wp2_with fail
              go_quiet (fail)
              have HF3 := Lib.hid (HF2.out.below (below_drewN (Below.refl wr.heap.size wr) nq))
              clear HF2 c0 c1
              generalize wr.drewN nq = wq at *
              go_wp2
              refine ⟨⟨k + 1, by go_num, by omega, ?_, ?_⟩, by simp [intOf]; omega⟩
              · rw [HT.out, List.pairwise_append]
                refine ⟨HPW.out, List.pairwise_singleton _ _, fun t ht u hu z hz => ?_⟩
                rw [List.mem_singleton] at hu
                subst hu
                rw [Bool.eq_false_iff]
                intro e
                have h1 := (inB_iff _ _).1 e
                dsimp only at h1
                have h2 := HFR.out z h1.1 (by omega)
                rw [Bool.eq_false_iff] at h2
                exact h2 (by rw [memB, List.any_eq_true]; exact ⟨t, ht, hz⟩)
              · have e : bl (memB (N.take (k + 1))) n = bl (fun z => memB (N.take k) z || inB (s1, y - s1) z) n := bl_congr fun z _ => by
                  rw [HT.out, memB_append, HYE.out]
                  simp [memB]
                rw [e]
                exact HF3.out
        · have hltI2 : ¬ (k : Int) < len := by omega
          have hkl : N.take k = N := List.take_of_length_le (by have := HNL.out; omega)
          rw [hkl] at HPW HF1
          clear hkl
          go_wp2
          go_ret2
          exact .inr ⟨_, rfl, HPW.out, HF1.out.fresh⟩

end Go.Proofs.Yteellffkjjllgaa
