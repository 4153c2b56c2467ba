/-
  What a strings.Builder holds, byte by byte. Conditions: as each theorem states them.
-/
import Derived.Test.YteellffkjjllgaaGreatG7
import Derived.Test.YteellffkjjllgaaGreatQHePut
namespace Go.Proofs.YteellffkjjllgaaGreat
open Go.RowKit Go.Rc5 Go.Rc6

theorem builder_kept {T e : TypeId} {B b : Nat} {bs : List Value} {W W' : World} (h : Lib.IsBuilderF T e B b bs W) (hb : Below W.heap.size W W') : Lib.IsBuilderF T e B b bs W' := by
  have old : ∀ k o, W.heap[k]? = some o → W'.heap[k]? = some o := fun k o hk => by
    rw [hb.block k ((Array.getElem?_eq_some_iff.1 hk).1)]; exact hk
  have key : ∀ p, Lib.BuilderAtF T e B b p bs W → Lib.BuilderAtF T e B b p bs W' := by
    rintro p ⟨hB, v, hbk, hown, hne⟩
    refine ⟨hB, v, old _ _ hbk, ⟨hown.1, ?_⟩, hne⟩
    rcases hown.2 with hn | ⟨g, cap, cur, fz, hv, hbg, hg, rest⟩
    · exact .inl hn
    · exact .inr ⟨g, cap, cur, fz, hv, hbg, old _ _ hg, rest⟩
  exact h.elim (fun x => .inl (key _ x)) (fun x => .inr (key _ x))

/-- A builder that holds some bytes; what was there ahead of it is as it was. -/
structure Wr (B b : Nat) (w0 : World) (acc : List UInt8) (n : Nat) (w : World) : Prop where
  is : Lib.IsBuilderF 74 5 B b (Lib.byteCells acc) w
  bel : Below B w0 w
  big : B ≤ w.heap.size
  len : acc.length ≤ n

theorem Wr.next {B b n : Nat} {w0 w w' : World} {acc : List UInt8} (h : Wr B b w0 acc n w) (hb : Below w.heap.size w w') : Wr B b w0 acc n w' :=
  ⟨builder_kept h.is hb, h.bel.trans (hb.mono h.big), Nat.le_trans h.big hb.size, h.len⟩

theorem Wr.start (w : World) : Wr w.heap.size w.heap.size w [] 0 (w.alloc (.cells #[.pointer none, .slice none 0 0] 74)) :=
  ⟨.of (Lib.fresh_isBuilder 74 5 w), (Below.refl _ w).alloc (Nat.le_refl _) _, by simp, Nat.le_refl _⟩

theorem size_list (s : ByteArray) : s.size = s.data.toList.length := by simp

theorem str_cells (s : ByteArray) : Lib.strCells s = Lib.byteCells s.data.toList := rfl

theorem WriteS {B b n : Nat} {w0 w : World} {acc : List UInt8} (h : Wr B b w0 acc n w) (s : ByteArray) (hs : s.size ≤ 100) (hn : n ≤ 1000000) :
    Calls Tryz.prog 39 #[.pointer (some ⟨b, 0, none⟩), .string s] w fun e w' => e = .returned (.tuple #[.int .i64 s.size, .nilIface]) ∧ Wr B b w0 (acc ++ s.data.toList) (n + 100) w' ∧ Lib.OthersKept 5 (some b) w w' := by
  have hl := h.len
  refine (WriteString_k B b _ s w h.is (by rw [Lib.byteCells_length]; omega) h.big).mono ?_
  rintro e w' ⟨rfl, h1, h2, h3⟩
  refine ⟨rfl, ⟨.inr ?_, h.bel.trans h2, Nat.le_trans h.big h2.size, ?_⟩, h3⟩
  · rw [Lib.byteCells_append]
    exact h1
  · have : s.data.toList.length = s.size := by simp
    rw [List.length_append, this]
    omega

theorem StringS {B b n : Nat} {w0 w : World} {acc : List UInt8} (h : Wr B b w0 acc n w) :
    Calls Tryz.prog 40 #[.pointer (some ⟨b, 0, none⟩)] w fun e w' => e = .returned (.string ⟨acc.toArray⟩) ∧ Wr B b w0 acc n w' :=
  (Tryz.Builder_String_any_k B b acc w h.is h.big).mono fun _ _ ⟨he, h1, h2, _⟩ => ⟨he, h1, h.bel.trans h2, Nat.le_trans h.big h2.size, h.len⟩

theorem PutN (m : Int) (q : Nat) (hm : m = (q : Int)) (hq : 1 ≤ q) (hq8 : q ≤ 8) (n : Nat) (hn : n < 18446744073709551616) (w : World) :
    Calls Tryz.prog 18 #[.int .u64 (n : Int), .int .i64 m] w fun e w' => e = .returned (.string ⟨(Rc2.put q n).toArray⟩) ∧ Below w.heap.size w w' :=
  Put_core n hn m q hq8 (by omega) w

end Go.Proofs.YteellffkjjllgaaGreat
