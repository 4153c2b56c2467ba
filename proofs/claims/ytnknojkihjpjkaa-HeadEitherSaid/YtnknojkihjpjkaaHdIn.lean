/-
  A head that comes in: its numbers and its row; what Put and Right make of it. Conditions: none.
-/
import Derived.Test.YtnknojkihjpjkaaHdShown
import Derived.Test.YtnknojkihjpjkaaHdChooseR
import Derived.Lib.SmallJoins
namespace Go.Proofs.Ytnknojkihjpjkaa
open Go.ChangeShapes Go.WideShapes Go.ChangeAt Go.RowKit Go.Rc5 Go.Rc6

/-- What is known of a head that came in. -/
structure IsHead (w : World) (g : Nat) (s z : Int) (a : Option Addr) (len : Nat) (L : List SpI) : Prop where
  gen : g < 18446744073709551616
  size : In64 z
  row : IsSpans w a len L

theorem IsHead.below {w w' : World} {g : Nat} {s z : Int} {a : Option Addr} {len : Nat} {L : List SpI} (h : IsHead w g s z a len L) (hb : Below w.heap.size w w') : IsHead w' g s z a len L :=
  ⟨h.gen, h.size, h.row.1, SpansAt.below h.row.2.1 hb, h.row.2.2⟩

theorem open_head {H : Type} {enc : TypeId × Value → H} {w : World} {base b0 : Nat} {spare : Nat → Bool} {held : Bool} {r : Reach} {v : Value} {d : DataW H} {p : List MemPlace}
    (hv : Value.okWide Try.prog w r b0 25 v) (h : DataW.Trod enc Try.prog w base spare held 25 v d p) :
    ∃ (g : Nat) (s z : Int) (a : Option Addr) (len cap : Nat) (L : List SpI), v = .agg #[.int .u64 (g : Int), .int .i64 s, .int .i64 z, .slice a len cap] ∧ IsHead w g s z a len L := by
  obtain ⟨v0, v1, v2, v3, y0, y1, y2, y3, n, rfl, rfl, rfl, t0, t1, t2, t3⟩ := Go.Joins.open_agg4 (P := Try.prog) Try.underlying25 (by kernel_rfl) (by kernel_rfl) hv h
  obtain ⟨n0, e0, _, w0⟩ := DataW.trod_int Try.underlying22 t0
  obtain ⟨n1, e1, _, _⟩ := DataW.trod_int Try.underlying3 t1
  obtain ⟨n2, e2, _, w2⟩ := DataW.trod_int Try.underlying3 t2
  obtain ⟨a, l, c, e3⟩ := Go.Joins.slice_form Try.underlying23 t3
  simp only [List.cons.injEq, and_true] at e0 e1 e2 e3
  subst e0 e1 e2 e3
  obtain ⟨g, rfl, hg⟩ := nat_of w0
  obtain ⟨L, hL⟩ := open_spans t3
  exact ⟨g, n1, n2, a, l, c, L, rfl, hg, in64_of w2, hL⟩

/-- A head that came in is right, and then its numbers are a head's, or it is not. -/
theorem IsHead.puts {w : World} {g : Nat} {s z : Int} {a : Option Addr} {len : Nat} {L : List SpI} (h : IsHead w g s z a len L) (c : Nat) :
    ∃ (P : ByteArray) (x : Int) (r : Bool),
      (∀ W, Below w.heap.size w W → Calls Try.prog 10 #[.agg #[.int .u64 (g : Int), .int .i64 s, .int .i64 z, .slice a len c]] W fun e w' => e = .returned (.tuple #[.string P, .int .i64 x]) ∧ Below W.heap.size W w') ∧
      (∀ W, Below w.heap.size w W → Calls Try.prog 11 #[.agg #[.int .u64 (g : Int), .int .i64 s, .int .i64 z, .slice a len c]] W fun e w' => e = .returned (.tuple #[.string P, .int .i64 x]) ∧ Below W.heap.size W w') ∧
      (∀ W, Below w.heap.size w W → Calls Try.prog 13 #[.agg #[.int .u64 (g : Int), .int .i64 s, .int .i64 z, .slice a len c]] W fun e w' => e = .returned (.bool r) ∧ Below W.heap.size W w') ∧
      (∀ W, Below w.heap.size w W → Calls Try.prog 14 #[.agg #[.int .u64 (g : Int), .int .i64 s, .int .i64 z, .slice a len c]] W fun e w' => e = .returned (.bool r) ∧ Below W.heap.size W w') ∧
      ((x = 0 ∧ r = true ∧ ∃ hd : Hd, hd.Ok ∧ Is g s z L hd ∧ P = hdB hd) ∨ (x = 1 ∧ r = false ∧ P = ⟨#[]⟩ ∧ ¬ HdGood g s z L)) := by
  obtain ⟨hg, hz, hl, hsp, hin⟩ := h
  have hS : ∀ W, Below w.heap.size w W → SpansAt W a L := fun W hW => SpansAt.below hsp hW
  have hin1 : ∀ x ∈ L, In64 x.1 := fun x hx => (hin x hx).1
  by_cases hgd : HdGood g s z L
  · obtain ⟨hd, k, i⟩ := hgd
    have hn : hd.spans.length = len := by rw [← hl, i.spans, castS_length]
    have hS2 : ∀ W, Below w.heap.size w W → SpansAt W a (castS hd.spans) := fun W hW => by rw [← i.spans]; exact hS W hW
    refine ⟨hdB hd, 0, true, ?_, ?_, ?_, ?_, .inl ⟨rfl, rfl, hd, k, i, rfl⟩⟩
    · intro W hW
      have := Put_yes hd k a c len W (hS2 W hW) hn
      rw [← i.gen, ← i.sectors, ← i.size] at this
      exact this
    · intro W hW
      have := PutR_yes hd k a c len W (hS2 W hW) hn
      rw [← i.gen, ← i.sectors, ← i.size] at this
      exact this
    · intro W hW
      have := Right_yes hd k a c len W (hS2 W hW) hn
      rw [← i.gen, ← i.sectors, ← i.size] at this
      exact this
    · intro W hW
      have := RightR_yes hd k a c len W (hS2 W hW) hn
      rw [← i.gen, ← i.sectors, ← i.size] at this
      exact this
  · exact ⟨⟨#[]⟩, 1, false, fun W hW => Put_no g hg s z hz.2 a c len L W (hS W hW) hl hin1 hgd, fun W hW => PutR_no g hg s z hz.2 a c len L W (hS W hW) hl hgd, fun W hW => Right_no g hg s z hz.2 a c len L W (hS W hW) hl hin1 hgd, fun W hW => RightR_no g hg s z hz.2 a c len L W (hS W hW) hl hgd, .inr ⟨rfl, rfl, rfl, hgd⟩⟩

end Go.Proofs.Ytnknojkihjpjkaa
