/-
  Numbers that are put one behind another, and a reader that takes them off again: the bytes, what is left of them, and what a reader with a byte fewer does at the last one. Conditions: as each theorem states them.
-/
import Derived.Test.YtodidacblnhmgaaLeLaw
import Derived.BigQuiet
namespace Go.Rc2

def cat (v : Nat → Nat) : Nat → List UInt8
  | 0 => []
  | k + 1 => cat v k ++ put (k % 8 + 1) (v k)

def suf (v : Nat → Nat) : Nat → Nat → List UInt8
  | _, 0 => []
  | i, d + 1 => put (i % 8 + 1) (v i) ++ suf v (i + 1) d

theorem cat_suf (v : Nat → Nat) (k d : Nat) : cat v k ++ suf v k d = cat v (k + d) := by
  induction d generalizing k with
  | zero => simp [suf]
  | succ d ih =>
    rw [suf, ← List.append_assoc]
    have := ih (k + 1)
    rw [cat] at this
    rw [this]
    congr 1
    omega

theorem cat_eq (v : Nat → Nat) (n : Nat) : cat v n = suf v 0 n := by
  have := cat_suf v 0 n
  rw [Nat.zero_add] at this
  rw [← this]
  rfl

theorem cat_len (v : Nat → Nat) (k : Nat) : k ≤ (cat v k).length ∧ (cat v k).length ≤ 8 * k := by
  induction k with
  | zero => simp [cat]
  | succ k ih =>
    rw [cat, List.length_append, put_length]
    omega

theorem suf_len (v : Nat → Nat) (i d : Nat) : d ≤ (suf v i d).length ∧ (suf v i d).length ≤ 8 * d := by
  induction d generalizing i with
  | zero => simp [suf]
  | succ d ih =>
    rw [suf, List.length_append, put_length]
    have := ih (i + 1)
    omega

theorem suf_next (v : Nat → Nat) (k n : Nat) (h : k < n) : suf v k (n - k) = put (k % 8 + 1) (v k) ++ suf v (k + 1) (n - (k + 1)) := by
  rw [show n - k = (n - (k + 1)) + 1 by omega]
  rfl

theorem suf_short (v : Nat → Nat) (k n : Nat) (h : k + 1 < n) : (suf v k (n - k)).dropLast = put (k % 8 + 1) (v k) ++ (suf v (k + 1) (n - (k + 1))).dropLast := by
  rw [suf_next v k n (by omega), List.dropLast_append_of_ne_nil]
  intro e
  have := (suf_len v (k + 1) (n - (k + 1))).1
  rw [e] at this
  simp at this
  omega

theorem suf_last (v : Nat → Nat) (k n : Nat) (h : k + 1 = n) : (suf v k (n - k)).dropLast = (put (k % 8 + 1) (v k)).dropLast := by
  rw [suf_next v k n (by omega), show n - (k + 1) = 0 by omega]
  simp [suf]

end Go.Rc2
namespace Go.Proofs.Ytodidacblnhmgaa
open Go.RowKit

theorem extract_drop (s : ByteArray) (k : Nat) : s.extract k s.size = ⟨(s.data.toList.drop k).toArray⟩ := by
  apply ByteArray.ext
  rw [ByteArray.data_extract]
  apply Array.ext'
  rw [Array.toList_extract, List.extract_eq_take_drop]
  exact List.take_of_length_le (by simp)

theorem num_one (b r n : Nat) (rest : List UInt8) (hr : r < 8) (hl : rest.length ≤ 1000) (w : World) (h : Rd 30 b ⟨(Rc2.put (r + 1) n ++ rest).toArray⟩ false w) :
    Calls Try.prog 15 #[.pointer (some ⟨b, 0, none⟩), .int .i64 (1 + (r : Int))] w fun e w' => e = .returned (.int .u64 ((n % 256 ^ (r + 1) : Nat) : Int)) ∧ Rd 30 b ⟨rest.toArray⟩ false w' ∧ Kept b w w' := by
  have hz : (ByteArray.mk (Rc2.put (r + 1) n ++ rest).toArray).size = r + 1 + rest.length := by
    show (Rc2.put (r + 1) n ++ rest).length = _
    rw [List.length_append, Rc2.put_length]
  have h1 := Number_any b _ false (1 + (r : Int)) (by rw [hz]; unfold maxLen; omega) w h
  have e : (false || decide (8 < 1 + (r : Int))) = false := by
    rw [Bool.false_or]
    exact decide_eq_false (by omega)
  unfold num at h1
  rw [e] at h1
  have hn : no ⟨(Rc2.put (r + 1) n ++ rest).toArray⟩ false (1 + (r : Int)) = false := by
    unfold no
    rw [hz]
    simp only [Bool.false_or, Bool.or_eq_false_iff, decide_eq_false_iff_not]
    omega
  have e1 : txt ⟨(Rc2.put (r + 1) n ++ rest).toArray⟩ false (1 + (r : Int)) = ⟨(Rc2.put (r + 1) n).toArray⟩ := by
    unfold txt
    rw [hn, show (1 + (r : Int)).toNat = r + 1 by omega, extract_take]
    show ByteArray.mk ((Rc2.put (r + 1) n ++ rest).take (r + 1)).toArray = _
    rw [List.take_append_of_le_length (by rw [Rc2.put_length]; exact Nat.le_refl _), List.take_of_length_le (by rw [Rc2.put_length]; exact Nat.le_refl _)]
  have e2 : lft ⟨(Rc2.put (r + 1) n ++ rest).toArray⟩ false (1 + (r : Int)) = ⟨rest.toArray⟩ := by
    unfold lft
    rw [hn, show (1 + (r : Int)).toNat = r + 1 by omega, extract_drop]
    show ByteArray.mk ((Rc2.put (r + 1) n ++ rest).drop (r + 1)).toArray = _
    have := List.drop_left (l₁ := Rc2.put (r + 1) n) (l₂ := rest)
    rw [Rc2.put_length] at this
    rw [this]
  rw [e1, e2, hn] at h1
  rw [show (ByteArray.mk (Rc2.put (r + 1) n).toArray).data.toList = Rc2.put (r + 1) n by simp, Rc2.get_put _ _ (by omega)] at h1
  exact h1

theorem num_last (b r n : Nat) (hr : r < 8) (w : World) (h : Rd 30 b ⟨(Rc2.put (r + 1) n).dropLast.toArray⟩ false w) :
    Calls Try.prog 15 #[.pointer (some ⟨b, 0, none⟩), .int .i64 (1 + (r : Int))] w fun e w' => e = .returned (.int .u64 0) ∧ Rd 30 b ⟨(Rc2.put (r + 1) n).dropLast.toArray⟩ true w' ∧ Kept b w w' := by
  have hz : (ByteArray.mk (Rc2.put (r + 1) n).dropLast.toArray).size = r := by
    show (Rc2.put (r + 1) n).dropLast.length = _
    rw [List.length_dropLast, Rc2.put_length]
    rfl
  have h1 := Number_any b _ false (1 + (r : Int)) (by rw [hz]; unfold maxLen; omega) w h
  have e : (false || decide (8 < 1 + (r : Int))) = false := by
    rw [Bool.false_or]
    exact decide_eq_false (by omega)
  unfold num at h1
  rw [e] at h1
  have hn : no ⟨(Rc2.put (r + 1) n).dropLast.toArray⟩ false (1 + (r : Int)) = true := by
    unfold no
    rw [hz]
    simp only [Bool.false_or, Bool.or_eq_true, decide_eq_true_eq]
    omega
  unfold txt lft at h1
  rw [hn] at h1
  exact h1

/-- The reader with a byte fewer, ahead of number k of n. -/
def Short (v : Nat → Nat) (n b k : Nat) (w : World) : Prop :=
  (k < n → Rd 30 b ⟨((Rc2.suf v k (n - k)).dropLast).toArray⟩ false w) ∧ (k = n → ∃ t, Rd 30 b t true w)

/-- A world behind w: what was there is there. -/
structure After (w : World) where
  to : World
  is : Below w.heap.size w to

instance (w : World) : Inhabited (After w) := ⟨⟨w, Below.refl _ _⟩⟩

theorem wp_region_after {id : Nat} {Q : Exit → Act → World → Prop} {a : Act} {w : World} {l : List Oper} (hm : Try.prog.follows .mixedOrders = true) (hB : Region.lexB .any l.toArray = true)
    (h : wpQuiet Try.prog l.toArray (fun w' => ∃ p : After w, w' = p.to) (fun a' => ∀ w', (∃ p : After w, w' = p.to) → Q .normal a' w') l a) : (Code.region id l.toArray true).wp Try.prog Q a w :=
  wp_region_quiet (C := fun w' => ∃ p : After w, w' = p.to) hm hB ⟨⟨w.drew, (Below.refl _ w).drew⟩, rfl⟩ (by simpa using h)

theorem after_call {f : Nat} {args : Array Value} {v : Value} (h : ∀ w, Calls Try.prog f args w fun e w' => e = .returned v ∧ Below w.heap.size w w') {w : World} (p : After w) :
    Calls Try.prog f args p.to fun e w' => e = .returned v ∧ ∃ q : After w, w' = q.to :=
  (h p.to).mono fun _ w' ⟨he, hw⟩ => ⟨he, ⟨w', below_trans p.is hw⟩, rfl⟩

theorem after_cell {w : World} {a : Addr} {v : Value} (h : w.cell? a = some v) (hb : a.block < w.heap.size) (p : After w) : p.to.cell? a = some v := (p.is.cell hb).trans h

end Go.Proofs.Ytodidacblnhmgaa
