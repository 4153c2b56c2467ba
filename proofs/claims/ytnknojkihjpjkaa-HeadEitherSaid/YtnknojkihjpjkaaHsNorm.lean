/-
  The reference of layer 5: what Norm, Rest, Total and Has answer. Conditions: as each theorem states them.
-/
import Derived.Test.YtnknojkihjpjkaaSpMarksB
namespace Go.Proofs.Ytnknojkihjpjkaa
open Go.RowKit Go.Rc5

/-- What Norm (or Rest, with other marks f) answers of a row of which each span is inside. -/
def RowAt (N : List Sp) (f : Nat → Bool) (n : Nat) (w : World) (e : Ending) (w' : World) : Prop :=
  (e = .returned (.tuple #[.slice none 0 0, .int .i64 5]) ∧ ¬ N.Pairwise Apart ∧ Below w.heap.size w w') ∨
  ∃ v, e = .returned (.tuple #[v, .int .i64 0]) ∧ N.Pairwise Apart ∧ Fresh (spT v (castS (rows f n))) w w'

theorem bl_fun (f : Nat → Bool) (n : Nat) : rows (fun x => (bl f n).getD x false) n = rows f n := rows_congr fun x hx => bl_get f n x hx

theorem Fresh.held {v : Value} {B : List Bool} {n : Nat} {w w' : World} (h : Fresh (blT v B n) w w') : ∃ a c, v = .slice a n c ∧ BoolsAt w' a B ∧ B.length = n := by
  obtain ⟨O, ⟨ho, _⟩, _⟩ := h
  obtain ⟨a, c, rfl⟩ := own_slice ho
  obtain ⟨h1, h2⟩ := bools_own ho
  exact ⟨a, c, rfl, h2, h1⟩

theorem Fresh.bel {t : Thing 0} {w w' : World} (h : Fresh t w w') : Below w.heap.size w w' := by
  obtain ⟨_, _, hb, _⟩ := h
  exact hb

/-- What is made behind what was made. -/
theorem Fresh.behind {t : Thing 0} {w w1 w' : World} (hb : Below w.heap.size w w1) (h : Fresh t w1 w') : Fresh t w w' := by
  obtain ⟨O, h1, h2, h3⟩ := h
  exact ⟨O, h1, hb.trans (h2.mono hb.size), fun k hk => Nat.le_trans hb.size (h3 k hk)⟩

set_option maxHeartbeats 2000000 in
theorem rnorm_bad (L : List SpI) (a : Option Addr) (c len : Nat) (size : Int) (w : World) (h : SpansAt w a L) (hl : L.length = len) (hlen : len ≤ 100000) (hb : Bad L size) :
    Calls Try.prog 53 #[.slice a len c, .int .i64 size] w fun e w' => e = .returned (.tuple #[.slice none 0 0, .int .i64 11]) ∧ Below w.heap.size w w' := by
  have HM := Lib.hid (rmarks_bad L a c len size w h hl hlen hb)
  clear h hb hl
  go_enter Try.func53, Try.ntmps53
  go_wp2_with fail
  refine HM.out.mono ?_
  rintro e w1 ⟨rfl, hb1⟩
  go_wp2
  go_ret2
  exact ⟨rfl, hb1⟩

set_option maxHeartbeats 2000000 in
theorem rnorm_good (L : List SpI) (N : List Sp) (n : Nat) (a : Option Addr) (c len : Nat) (w : World) (h : SpansAt w a L) (hl : L.length = len) (hlen : len ≤ 100000) (hg : Fits L N n) :
    Calls Try.prog 53 #[.slice a len c, .int .i64 n] w (RowAt N (memB N) n w) := by
  have HM := Lib.hid (rmarks_good L N n a c len w h hl hlen hg)
  have hn := hg.hi
  clear h hl hg
  go_enter Try.func53, Try.ntmps53
  go_wp2_with fail
  refine HM.out.mono ?_
  rintro e w1 (⟨rfl, hp, hb1⟩ | ⟨v, rfl, hp, hf⟩)
  · have HP := Lib.hid hp
    clear hp HM
    go_wp2
    go_ret2
    exact .inl ⟨rfl, HP.out, hb1⟩
  · have HP := Lib.hid hp
    have HF := Lib.hid hf
    obtain ⟨a1, c1, rfl, hbl, hbn⟩ := hf.held
    have HR := Lib.hid (rrow_any (bl (memB N) n) a1 c1 n w1 hbl hbn hn)
    clear hp hf hbl hbn HM
    go_wp2_with fail
    refine HR.out.mono ?_
    rintro e w2 ⟨v, rfl, hf2⟩
    rw [bl_fun] at hf2
    have HF2 := Lib.hid (hf2.behind HF.out.bel)
    clear hf2
    go_wp2
    go_ret2
    exact .inr ⟨v, rfl, HP.out, HF2.out⟩

end Go.Proofs.Ytnknojkihjpjkaa
