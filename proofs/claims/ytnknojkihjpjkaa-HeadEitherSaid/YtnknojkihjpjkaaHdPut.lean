/-
  What the program's Put makes of a head. Conditions: as each theorem states them.
-/
import Derived.Test.YtnknojkihjpjkaaHdRight
import Derived.Test.YtnknojkihjpjkaaHdBuild
import Derived.Test.YtnknojkihjpjkaaHePut
namespace Go.Proofs.Ytnknojkihjpjkaa
open Go.RowKit Go.Rc5 Go.Rc6

/-- The sector of a head. -/
def hdB (h : Hd) : ByteArray := sealedB ⟨(text h).toArray⟩

theorem builder_kept {T e : TypeId} {B b : Nat} {bs : List Value} {W W' : World} (h : Lib.IsBuilderF T e B b bs W) (hb : Below W.heap.size W W') : Lib.IsBuilderF T e B b bs W' := by
  have old : ∀ k o, W.heap[k]? = some o → W'.heap[k]? = some o := fun k o hk => by
    rw [hb.block k ((Array.getElem?_eq_some_iff.1 hk).1)]; exact hk
  have key : ∀ p, Lib.BuilderAtF T e B b p bs W → Lib.BuilderAtF T e B b p bs W' := by
    rintro p ⟨hB, v, hbk, hown, hne⟩
    refine ⟨hB, v, old _ _ hbk, ⟨hown.1, ?_⟩, hne⟩
    rcases hown.2 with hn | ⟨g, cap, cur, fz, hv, hbg, hg, rest⟩
    · exact .inl hn
    · exact .inr ⟨g, cap, cur, fz, hv, hbg, old _ _ hg, rest⟩
  exact h.elim (fun x => .inl (key _ x)) (fun x => .inr (key _ x))

/-- A builder that holds some bytes; what was there ahead of it is as it was. -/
structure Wr (B b : Nat) (w0 : World) (acc : List UInt8) (n : Nat) (w : World) : Prop where
  is : Lib.IsBuilderF 56 5 B b (Lib.byteCells acc) w
  bel : Below B w0 w
  big : B ≤ w.heap.size
  len : acc.length ≤ n

theorem Wr.next {B b n : Nat} {w0 w w' : World} {acc : List UInt8} (h : Wr B b w0 acc n w) (hb : Below w.heap.size w w') : Wr B b w0 acc n w' :=
  ⟨builder_kept h.is hb, h.bel.trans (hb.mono h.big), Nat.le_trans h.big hb.size, h.len⟩

theorem Wr.start (w : World) : Wr w.heap.size w.heap.size w [] 0 (w.alloc (.cells #[.pointer none, .slice none 0 0] 56)) :=
  ⟨.of (Lib.fresh_isBuilder 56 5 w), (Below.refl _ w).alloc (Nat.le_refl _) _, by simp, Nat.le_refl _⟩

theorem size_list (s : ByteArray) : s.size = s.data.toList.length := by simp

theorem str_cells (s : ByteArray) : Lib.strCells s = Lib.byteCells s.data.toList := rfl

theorem WriteS {B b n : Nat} {w0 w : World} {acc : List UInt8} (h : Wr B b w0 acc n w) (s : ByteArray) (hs : s.size ≤ 64) (hn : n ≤ 100000) :
    Calls Try.prog 21 #[.pointer (some ⟨b, 0, none⟩), .string s] w fun e w' => e = .returned (.tuple #[.int .i64 s.size, .nilIface]) ∧ Wr B b w0 (acc ++ s.data.toList) (n + 64) w' ∧ Lib.OthersKept 5 (some b) w w' := by
  have hl := h.len
  refine (WriteString_k B b _ s w h.is (by rw [Lib.byteCells_length]; omega) h.big).mono ?_
  rintro e w' ⟨rfl, h1, h2, h3⟩
  refine ⟨rfl, ⟨.inr ?_, h.bel.trans h2, Nat.le_trans h.big h2.size, ?_⟩, h3⟩
  · rw [Lib.byteCells_append]
    exact h1
  · have : s.data.toList.length = s.size := by simp
    rw [List.length_append, this]
    omega

theorem LenS {B b n : Nat} {w0 w : World} {acc : List UInt8} (h : Wr B b w0 acc n w) (m : Nat) (hm : acc.length = m) :
    Calls Try.prog 24 #[.pointer (some ⟨b, 0, none⟩)] w fun e w' => e = .returned (.int .i64 m) ∧ w' = w := by
  have := Try.Builder_Len_f B b _ w h.is
  rw [Lib.byteCells_length, hm] at this
  exact this

theorem StringS {B b n : Nat} {w0 w : World} {acc : List UInt8} (h : Wr B b w0 acc n w) :
    Calls Try.prog 26 #[.pointer (some ⟨b, 0, none⟩)] w fun e w' => e = .returned (.string ⟨acc.toArray⟩) ∧ Wr B b w0 acc n w' :=
  (Try.Builder_String_any_k B b acc w h.is h.big).mono fun _ _ ⟨he, h1, h2, _⟩ => ⟨he, h1, h.bel.trans h2, Nat.le_trans h.big h2.size, h.len⟩

theorem repeat_noughts (q : Nat) : Lib.repeatL [0] q = List.replicate q (0 : UInt8) := by
  induction q with
  | zero => rfl
  | succ q ih =>
    show [0] ++ Lib.repeatL [0] q = _
    rw [ih, List.replicate_succ]
    rfl

theorem RepeatS (c : Int) (q : Nat) (hc : c = (q : Int)) (hq : q ≤ 60) (w : World) :
    Calls Try.prog 23 #[.string ⟨#[0]⟩, .int .i64 c] w fun e w' => e = .returned (.string ⟨(List.replicate q 0).toArray⟩) ∧ Below w.heap.size w w' := by
  subst hc
  have := Try.strings_Repeat ⟨#[0]⟩ q w (by omega) (by show 1 * q ≤ _; omega)
  rw [show (ByteArray.mk #[0]).data.toList = [0] from rfl, repeat_noughts] at this
  exact this

theorem PutN (m : Int) (q : Nat) (hm : m = (q : Int)) (hq : 1 ≤ q) (hq8 : q ≤ 8) (n : Nat) (hn : n < 18446744073709551616) (w : World) :
    Calls Try.prog 22 #[.int .u64 (n : Int), .int .i64 m] w fun e w' => e = .returned (.string ⟨(Rc2.put q n).toArray⟩) ∧ Below w.heap.size w w' :=
  Put_core n hn m q hq8 (by omega) w

open Classical in
theorem Right_yes (h : Hd) (k : h.Ok) (a : Option Addr) (c len : Nat) (w : World) (hs : SpansAt w a (castS h.spans)) (hl : h.spans.length = len) :
    Calls Try.prog 13 #[.agg #[.int .u64 (h.gen : Int), .int .i64 (h.sectors : Int), .int .i64 (h.size : Int), .slice a len c]] w fun e w' => e = .returned (.bool true) ∧ Below w.heap.size w w' := by
  have hz := k.size_lt
  have := Right_any h.gen k.gen h.sectors h.size (by omega) a c len (castS h.spans) w hs (by rw [castS_length, hl]) (fun x hx => by
    simp only [castS, List.mem_map] at hx
    obtain ⟨t, ht, rfl⟩ := hx
    have h1 := k.fit t ht
    have h2 := k.high
    exact ⟨by show -9223372036854775808 ≤ (t.1 : Int); omega, by show (t.1 : Int) ≤ 9223372036854775807; omega⟩)
  rw [decide_eq_true (show HdGood h.gen h.sectors h.size (castS h.spans) from ⟨h, k, rfl, rfl, rfl, rfl⟩)] at this
  exact this

open Classical in
theorem Right_no (g : Nat) (hg : g < 18446744073709551616) (s z : Int) (hz : z ≤ 9223372036854775807) (a : Option Addr) (c len : Nat) (L : List SpI) (w : World) (h : SpansAt w a L) (hl : L.length = len) (hin : ∀ x ∈ L, In64 x.1) (hno : ¬ HdGood g s z L) :
    Calls Try.prog 13 #[.agg #[.int .u64 (g : Int), .int .i64 s, .int .i64 z, .slice a len c]] w fun e w' => e = .returned (.bool false) ∧ Below w.heap.size w w' := by
  have := Right_any g hg s z hz a c len L w h hl hin
  rw [decide_eq_false hno] at this
  exact this

set_option maxHeartbeats 2000000 in
theorem Put_no (g : Nat) (hg : g < 18446744073709551616) (s z : Int) (hz : z ≤ 9223372036854775807) (a : Option Addr) (c len : Nat) (L : List SpI) (w : World) (h : SpansAt w a L) (hl : L.length = len) (hin : ∀ x ∈ L, In64 x.1) (hno : ¬ HdGood g s z L) :
    Calls Try.prog 10 #[.agg #[.int .u64 (g : Int), .int .i64 s, .int .i64 z, .slice a len c]] w fun e w' => e = .returned (.tuple #[.string ⟨#[]⟩, .int .i64 1]) ∧ Below w.heap.size w w' := by
  have HB := Lib.hid ((Crew.start w).block #[.int .u64 (g : Int), .int .i64 s, .int .i64 z, .slice a len c] 25).bel
  have HR := Lib.hid (fun W hW => Right_no g hg s z hz a c len L W (SpansAt.below h hW) hl hin hno)
  clear h hl hin hno hz hg
  go_enter Try.func10, Try.ntmps10
  go_wp2_with (go_at_call 13; refine (HR.out _ HB.out).mono ?_; rintro e w1 ⟨rfl, hb1⟩)
  go_ret2
  exact ⟨rfl, below_trans HB.out hb1⟩

end Go.Proofs.Ytnknojkihjpjkaa
