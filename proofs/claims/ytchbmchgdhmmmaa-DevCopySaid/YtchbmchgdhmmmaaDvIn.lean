/-
  A row of acts that came in: what its cells hold. Conditions: none.
-/
import Derived.Test.YtchbmchgdhmmmaaLawG
import Derived.Deep.Slices
import Derived.Deep.Fields
import Derived.ChangeSame
import Derived.ChangeSlices
namespace Go.Rc4

/-- An act, as it is read: four fields, the last one a row of numbers. -/
structure AR where
  op : Int
  at_ : Int
  n : Int
  ka : Option Addr
  kn : Nat
  kc : Nat
  ks : List Int

def In64 (x : Int) : Prop := -9223372036854775808 ≤ x ∧ x ≤ 9223372036854775807

structure ActAt (w : World) (x : Addr) (i : Nat) (r : AR) : Prop where
  c0 : w.cell? (x.add (i * 4)) = some (.int .i64 r.op)
  c1 : w.cell? ⟨(x.add (i * 4)).block, (x.add (i * 4)).off + 1, none⟩ = some (.int .i64 r.at_)
  c2 : w.cell? ⟨(x.add (i * 4)).block, (x.add (i * 4)).off + 2, none⟩ = some (.int .i64 r.n)
  c3 : w.cell? ⟨(x.add (i * 4)).block, (x.add (i * 4)).off + 3, none⟩ = some (.slice r.ka r.kn r.kc)
  keep : ∀ j, j < r.kn → ∃ y, r.ka = some y ∧ w.cell? (y.add j) = some (.int .i64 (r.ks.getD j 0))
  len : r.ks.length = r.kn
  i0 : In64 r.op
  i1 : In64 r.at_
  i2 : In64 r.n

def IsActs (w : World) (a : Option Addr) (len : Nat) (F : Nat → AR) : Prop := ∀ i, i < len → ∃ x, a = some x ∧ ActAt w x i (F i)

theorem in64_of {x : Int} (h : (Lit.int .i64 x).wf = true) : In64 x := by
  simp only [Lit.wf, Bool.and_eq_true, decide_eq_true_eq] at h
  exact h

end Go.Rc4
namespace Go.Proofs.Ytchbmchgdhmmmaa
open Go.ChangeShapes Go.WideShapes Go.ChangeAt Go.RowKit Go.Rc4 Go.Deep

section
variable {H : Type} {enc : TypeId × Value → H} {P : Program} {w : World} {base : Nat} {spare : Nat → Bool} {held : Bool}

theorem add_spelt (x : Addr) (i j : Nat) : x.add (i + (j + 1)) = ⟨(x.add i).block, (x.add i).off + (j + 1), none⟩ := by
  rw [← add_add]
  rfl

/-- Each field of each element of a row of records lies in a cell of its own, and reads there as its type says. -/
theorem field_cells {t e : TypeId} {fs : Array Field} {fuel : Nat} {a : Option Addr} {len cap : Nat} {x : DataW H × List MemPlace} (ht : P.underlying t = some (.slice e)) (he : P.underlying e = some (.struct fs))
    (hone : oneCellFields P fs = true) (hC : P.cellsOf e = fs.size) (h : DataW.trod enc P w base spare held fuel t [.slice a len cap] = some x) :
    len ≤ cap ∧ cap ≤ maxLen ∧ ∀ i, i < len → ∃ b n, a = some b ∧ ∀ (j : Nat) (f : Field), fs[j]? = some f → ∃ v y, w.cell? (b.add (i * fs.size + j)) = some v ∧ DataW.trod enc P w base spare held n f.type [v] = some y := by
  rcases open_slice ht h with ⟨h0, _⟩ | ⟨b, len', cap', m, n, D, Pl, hcs, _, hl, hm, hmm, _, hi⟩
  · simp only [List.cons.injEq, Value.slice.injEq, and_true] at h0
    obtain ⟨rfl, rfl, rfl⟩ := h0
    exact ⟨Nat.le_refl _, Nat.zero_le _, fun i hi => absurd hi (Nat.not_lt_zero _)⟩
  · simp only [List.cons.injEq, Value.slice.injEq, and_true] at hcs
    obtain ⟨rfl, rfl, rfl⟩ := hcs
    refine ⟨hl, hm, fun i hlt => ?_⟩
    obtain ⟨cs, hc, hr⟩ := hi i (by rw [hmm]; split <;> omega)
    rw [hC] at hc
    obtain ⟨_, hn, hat⟩ := World.cells?_some hc
    obtain ⟨ys, n', _, _, _, hyl, hf⟩ := DataW.trod_struct he hr
    refine ⟨b, n', rfl, fun j f hj => ?_⟩
    have hj' : j < fs.size := (Array.getElem?_eq_some_iff.1 hj).1
    obtain ⟨ho, hk⟩ := hone_of hone j f hj
    have h1 := hf j f hj
    have h2 : (cs.drop j).take 1 = [cs[j]'(by omega)] := by rw [List.drop_eq_getElem_cons (by omega)]; rfl
    have h3 : ys[j]? = some (ys[j]'(by omega)) := List.getElem?_eq_getElem (by omega)
    rw [ho, hk, h2, h3] at h1
    refine ⟨_, _, ?_, h1⟩
    rw [← add_add, hat j hj', List.getElem?_eq_getElem (by omega)]

end

theorem open_acts {H : Type} {enc : TypeId × Value → H} {w : World} {base : Nat} {spare : Nat → Bool} {held : Bool} {fuel : Nat} {a : Option Addr} {len cap : Nat} {x : DataW H × List MemPlace}
    (h : DataW.trod enc Try.prog w base spare held fuel 22 [.slice a len cap] = some x) : ∃ F, IsActs w a len F := by
  obtain ⟨_, _, hi⟩ := field_cells (P := Try.prog) (fs := #[_, _, _, _]) Try.underlying22 Try.underlying35 (by kernel_rfl) (by kernel_rfl) h
  have key : ∀ i, i < len → ∃ r : AR, ∃ b, a = some b ∧ ActAt w b i r := by
    intro i hlt
    obtain ⟨b, n, hb, hf⟩ := hi i hlt
    obtain ⟨v0, y0, c0, t0⟩ := hf 0 _ rfl
    obtain ⟨v1, y1, c1, t1⟩ := hf 1 _ rfl
    obtain ⟨v2, y2, c2, t2⟩ := hf 2 _ rfl
    obtain ⟨v3, y3, c3, t3⟩ := hf 3 _ rfl
    replace c0 : w.cell? (b.add (i * 4)) = _ := c0
    replace c1 : w.cell? (b.add (i * 4 + 1)) = _ := c1
    replace c2 : w.cell? (b.add (i * 4 + 2)) = _ := c2
    replace c3 : w.cell? (b.add (i * 4 + 3)) = _ := c3
    rw [add_spelt] at c1 c2 c3
    obtain ⟨n0, e0, _, w0⟩ := DataW.trod_int Try.underlying3 t0
    obtain ⟨n1, e1, _, w1⟩ := DataW.trod_int Try.underlying3 t1
    obtain ⟨n2, e2, _, w2⟩ := DataW.trod_int Try.underlying3 t2
    simp only [List.cons.injEq, and_true] at e0 e1 e2
    subst e0 e1 e2
    rcases open_ints Try.underlying33 Try.underlying3 (by kernel_rfl) t3 with ⟨hcs, _⟩ | ⟨y, l, c, zs, hcs, _, hl, hm, hz, _, hcell, hwz⟩
    · simp only [List.cons.injEq, and_true] at hcs
      subst hcs
      exact ⟨⟨n0, n1, n2, none, 0, 0, []⟩, b, hb, ⟨c0, c1, c2, c3, fun j hj => absurd hj (Nat.not_lt_zero _), rfl, in64_of w0, in64_of w1, in64_of w2⟩⟩
    · simp only [List.cons.injEq, and_true] at hcs
      subst hcs
      have hle : l ≤ zs.length := by rw [hz]; split <;> omega
      refine ⟨⟨n0, n1, n2, some y, l, c, zs.take l⟩, b, hb, ⟨c0, c1, c2, c3, fun j hj => ⟨y, rfl, ?_⟩, by simp; omega, in64_of w0, in64_of w1, in64_of w2⟩⟩
      have hj' : j < l := hj
      rw [hcell j (by omega)]
      simp [List.getD_eq_getElem?_getD, hj']
  have ex : ∀ i, ∃ r : AR, i < len → ∃ b, a = some b ∧ ActAt w b i r := fun i => by
    by_cases hlt : i < len
    · obtain ⟨r, h⟩ := key i hlt
      exact ⟨r, fun _ => h⟩
    · exact ⟨⟨0, 0, 0, none, 0, 0, []⟩, fun h => absurd h hlt⟩
  exact ⟨fun i => (ex i).choose, fun i hlt => (ex i).choose_spec hlt⟩

end Go.Proofs.Ytchbmchgdhmmmaa
