/-
  What the methods of a reader do to it, of the program's and of the document's own: one and the same. Conditions: the reader lies in memory as two cells of a block of its own; its text has at most as many bytes as a text may have.
-/
import Derived.Test.YtnknojkihjpjkaaLeGetR
import Derived.Lib.Builder
import Derived.Laws.Rows
namespace Go.Proofs.Ytnknojkihjpjkaa
open Go.RowKit

def Rd (T b : Nat) (s : ByteArray) (bad : Bool) (w : World) : Prop := w.heap[b]? = some (.cells #[.string s, .bool bad] T (0, 0))

/-- But for one block all is as it was. -/
structure Kept (b : Nat) (w w' : World) : Prop where
  os : w'.os = w.os
  tape : w'.tape = w.tape
  output : w'.output = w.output
  size : w'.heap.size = w.heap.size
  block : ∀ k, k ≠ b → w'.heap[k]? = w.heap[k]?

def no (s : ByteArray) (bad : Bool) (n : Int) : Bool := bad || decide (n < 0) || decide ((s.size : Int) < n)
def txt (s : ByteArray) (bad : Bool) (n : Int) : ByteArray := if no s bad n then .empty else s.extract 0 n.toNat
def num (s : ByteArray) (bad : Bool) (n : Int) : Nat := Rc2.get (txt s (bad || decide (8 < n)) n).data.toList
def lft (s : ByteArray) (bad : Bool) (n : Int) : ByteArray := if no s bad n then s else s.extract n.toNat s.size

theorem Rd.set0 {T b : Nat} {s : ByteArray} {bad : Bool} {w : World} (h : Rd T b s bad w) (t : ByteArray) : Rd T b t bad (w.setCell ⟨b, 0, none⟩ (.string t)) := by
  unfold Rd
  rw [heap_setCell_same w b 0 _ T _ h]
  rfl

theorem Rd.set1 {T b : Nat} {s : ByteArray} {bad : Bool} {w : World} (h : Rd T b s bad w) (t : Bool) : Rd T b s t (w.setCell ⟨b, 1, none⟩ (.bool t)) := by
  unfold Rd
  rw [heap_setCell_same w b 1 _ T _ h]
  rfl

theorem Kept.set (b j : Nat) (w : World) (u : Value) : Kept b w (w.setCell ⟨b, j, none⟩ u) :=
  ⟨rfl, rfl, rfl, by simp [World.setCell], fun k hk => Below.heap_setCell _ _ _ _ hk⟩

theorem Kept.trans {b : Nat} {u v w : World} (h : Kept b u v) (k : Kept b v w) : Kept b u w :=
  ⟨k.os.trans h.os, k.tape.trans h.tape, k.output.trans h.output, k.size.trans h.size, fun i hi => (k.block i hi).trans (h.block i hi)⟩

theorem Kept.below {b B : Nat} {w w' : World} (h : Kept b w w') (hb : B ≤ b) : Below B w w' :=
  ⟨h.os, h.tape, h.output, Nat.le_of_eq h.size.symm, fun k hk => h.block k (by omega)⟩

theorem Rd.kept {T b c : Nat} {s : ByteArray} {bad : Bool} {w w' : World} (h : Rd T b s bad w) (k : Kept c w w') (hb : b ≠ c) : Rd T b s bad w' := by
  unfold Rd
  rw [k.block b hb]
  exact h

theorem Rd.lt {T b : Nat} {s : ByteArray} {bad : Bool} {w : World} (h : Rd T b s bad w) : b < w.heap.size := by
  rcases Nat.lt_or_ge b w.heap.size with h' | h'
  · exact h'
  · unfold Rd at h
    simp [Array.getElem?_eq_none h'] at h

theorem Rd.below {T b : Nat} {s : ByteArray} {bad : Bool} {w w' : World} (h : Rd T b s bad w) (k : Below w.heap.size w w') : Rd T b s bad w' := by
  unfold Rd
  rw [k.block b h.lt]
  exact h

theorem extract_size (s : ByteArray) (i j : Nat) : (s.extract i j).size ≤ s.size := by
  rw [ByteArray.size_extract]
  omega

theorem txt_le (s : ByteArray) (bad : Bool) (n : Int) {m : Nat} (h : s.size ≤ m) : (txt s bad n).size ≤ m := by
  unfold txt
  split
  · exact Nat.zero_le _
  · exact Nat.le_trans (extract_size _ _ _) h

theorem lft_le (s : ByteArray) (bad : Bool) (n : Int) {m : Nat} (h : s.size ≤ m) : (lft s bad n).size ≤ m := by
  unfold lft
  split
  · exact h
  · exact Nat.le_trans (extract_size _ _ _) h

set_option maxHeartbeats 1000000 in
theorem Text_any (b : Nat) (s : ByteArray) (bad : Bool) (n : Int) (w : World) (h : Rd 88 b s bad w) :
    Calls Try.prog 55 #[.pointer (some ⟨b, 0, none⟩), .int .i64 n] w fun e w' => e = .returned (.string (txt s bad n)) ∧ Rd 88 b (lft s bad n) (no s bad n) w' ∧ Kept b w w' := by
  have c0 : w.cell? ⟨b, 0, none⟩ = some (.string s) := by rw [Lib.cell_of_heap h]; rfl
  have c1 : w.cell? ⟨b, 1, none⟩ = some (.bool bad) := by rw [Lib.cell_of_heap h]; rfl
  have f0 : w.frozen? ⟨b, 0, none⟩ = false := Lib.frozen_of_heap h 0
  have f1 : w.frozen? ⟨b, 1, none⟩ = false := Lib.frozen_of_heap h 1
  have H := Lib.hid h
  clear h
  by_cases hn : no s bad n = true
  · have HN := Lib.hid hn
    have HE : Hid (txt s bad n = .empty ∧ lft s bad n = s) := by
      unfold txt lft
      rw [hn]
      exact ⟨rfl, rfl⟩
    unfold no at hn
    simp only [Bool.or_eq_true, decide_eq_true_eq] at hn
    cases bad with
    | true =>
      clear hn
      go_enter Try.func55, Try.ntmps55
      go_wp2
      go_ret
      rw [HE.out.1, HE.out.2, HN.out]
      exact ⟨rfl, H.out.set1 _, .set _ _ _ _⟩
    | false =>
      by_cases h1 : n < 0
      · clear hn
        go_enter Try.func55, Try.ntmps55
        go_wp2
        go_ret
        rw [HE.out.1, HE.out.2, HN.out]
        exact ⟨rfl, H.out.set1 _, .set _ _ _ _⟩
      · have h2 : (s.size : Int) < n := by
          rcases hn with (hn | hn) | hn
          · cases hn
          · exact absurd hn h1
          · exact hn
        clear hn
        go_enter Try.func55, Try.ntmps55
        go_wp2
        go_ret
        rw [HE.out.1, HE.out.2, HN.out]
        exact ⟨rfl, H.out.set1 _, .set _ _ _ _⟩
  · rw [Bool.not_eq_true] at hn
    have HN := Lib.hid hn
    have HE : Hid (txt s bad n = s.extract 0 n.toNat ∧ lft s bad n = s.extract n.toNat s.size) := by
      unfold txt lft
      rw [hn]
      exact ⟨rfl, rfl⟩
    unfold no at hn
    simp only [Bool.or_eq_false_iff, decide_eq_false_iff_not] at hn
    obtain ⟨⟨rfl, h1⟩, h2⟩ := hn
    have h3 : 0 ≤ n := by omega
    have h4 : n ≤ s.size := by omega
    go_enter Try.func55, Try.ntmps55
    go_wp2
    go_ret
    rw [HE.out.1, HE.out.2, HN.out]
    exact ⟨rfl, H.out.set0 _, .set _ _ _ _⟩

set_option maxHeartbeats 1000000 in
theorem Number_any (b : Nat) (s : ByteArray) (bad : Bool) (n : Int) (hs : s.size ≤ maxLen) (w : World) (h : Rd 88 b s bad w) :
    Calls Try.prog 56 #[.pointer (some ⟨b, 0, none⟩), .int .i64 n] w fun e w' => e = .returned (.int .u64 (num s bad n)) ∧ Rd 88 b (lft s (bad || decide (8 < n)) n) (no s (bad || decide (8 < n)) n) w' ∧ Kept b w w' := by
  have c0 : w.cell? ⟨b, 0, none⟩ = some (.string s) := by rw [Lib.cell_of_heap h]; rfl
  have c1 : w.cell? ⟨b, 1, none⟩ = some (.bool bad) := by rw [Lib.cell_of_heap h]; rfl
  have f1 : w.frozen? ⟨b, 1, none⟩ = false := Lib.frozen_of_heap h 1
  have H := Lib.hid h
  clear h
  unfold num
  by_cases h8 : 8 < n
  · have e : (bad || decide (8 < n)) = true := by simp [h8]
    rw [e]
    clear e
    have HT := Lib.hid (Text_any b s true n _ (H.out.set1 true))
    have HG := Lib.hid (Get_any (txt s true n) (txt_le s true n hs))
    clear hs
    go_enter Try.func56, Try.ntmps56
    go_wp2_with (first | (go_at_call 55; refine (HT.out).mono ?_; rintro e w1 ⟨rfl, hr, hk⟩) | (go_at_call 54; refine (HG.out _).mono ?_; rintro e w2 ⟨rfl, rfl⟩))
    go_ret
    exact ⟨rfl, hr, Kept.trans (.set _ _ _ _) hk⟩
  · have e : (bad || decide (8 < n)) = bad := by simp [h8]
    rw [e]
    clear e
    have HT := Lib.hid (Text_any b s bad n w H.out)
    have HG := Lib.hid (Get_any (txt s bad n) (txt_le s bad n hs))
    clear hs
    go_enter Try.func56, Try.ntmps56
    go_wp2_with (first | (go_at_call 55; refine (HT.out).mono ?_; rintro e w1 ⟨rfl, hr, hk⟩) | (go_at_call 54; refine (HG.out _).mono ?_; rintro e w2 ⟨rfl, rfl⟩))
    go_ret
    exact ⟨rfl, hr, hk⟩

end Go.Proofs.Ytnknojkihjpjkaa
