/-
  Numbers as bytes, the lowest first: plain mathematics of what bytes say and of a number's lowest bytes. Conditions: none.
  What le.Get answers: what the first eight bytes say. Condition: the text has at most as many bytes as a text may have.
  What the document's own Get answers: what the first eight bytes say. Condition: the text has at most as many bytes as a text may have.
  What the methods of a reader do to it, of the program's and of the document's own: one and the same. Conditions: the reader lies in memory as two cells of a block of its own; its text has at most as many bytes as a text may have.
  Rows of spans as plain mathematics: which sectors they have, rows with gaps between, how many sectors, and that such a row is known by its sectors. Conditions: as each theorem states them.
  Heads as plain mathematics: a head's bytes, and the head that bytes say. Conditions: as each theorem states them.
  Plain facts on the bytes of UTF-8, over lists of bytes: what a list begins with ('dec'), how it is cut into runes and wrong bytes ('cut'), and how the cutting goes over takes, drops and appends. No program is named here. Conditions: none.
-/
import Derived.WalkKit
import Derived.Test.YteellffkjjllgaaGreatChecked
import Derived.WalkSpells
import Derived.Below
import Derived.Lib.Hide
import Derived.Laws.Bits64b
import Derived.Lib.Builder
import Derived.Laws.Rows
import Derived.Lib.DecodeN
import Derived.Lib.RuneCountTail
namespace Go.Rc2

def say : List UInt8 → Nat
  | [] => 0
  | b :: r => b.toNat + 256 * say r

def get (l : List UInt8) : Nat := say (l.take 8)

def put : Nat → Nat → List UInt8
  | 0, _ => []
  | k + 1, n => UInt8.ofNat n :: put k (n / 256)

theorem say_lt (l : List UInt8) : say l < 256 ^ l.length := by
  induction l with
  | nil => decide
  | cons b r ih =>
    have := b.toNat_lt
    simp only [say, List.length_cons, Nat.pow_succ]
    omega

theorem get_lt (l : List UInt8) : get l < 18446744073709551616 := by
  have h := say_lt (l.take 8)
  have h2 : 256 ^ (l.take 8).length ≤ 256 ^ 8 := Nat.pow_le_pow_right (by decide) (by simp; omega)
  have h3 : (256 : Nat) ^ 8 = 18446744073709551616 := by decide
  unfold get
  omega

theorem say_append (l r : List UInt8) : say (l ++ r) = say l + 256 ^ l.length * say r := by
  induction l with
  | nil => simp [say]
  | cons b l ih =>
    simp only [List.cons_append, say, ih, List.length_cons, Nat.pow_succ, Nat.mul_add]
    rw [Nat.mul_comm (256 ^ l.length) 256, Nat.mul_assoc]
    omega

theorem put_length (k n : Nat) : (put k n).length = k := by
  induction k generalizing n with
  | zero => rfl
  | succ k ih => simp [put, ih]

theorem say_put (k n : Nat) : say (put k n) = n % 256 ^ k := by
  induction k generalizing n with
  | zero => simp [put, say, Nat.mod_one]
  | succ k ih =>
    simp only [put, say, ih]
    rw [Nat.pow_succ', Nat.mod_mul]
    simp

theorem put_take (j k n : Nat) (h : j ≤ k) : (put k n).take j = put j n := by
  induction k generalizing n j with
  | zero => obtain rfl : j = 0 := by omega
            rfl
  | succ k ih =>
    match j, h with
    | 0, _ => rfl
    | j + 1, h => simp [put, ih j (n / 256) (by omega)]

theorem put_get (k n j : Nat) (h : j < k) : (put k n)[j]? = some (UInt8.ofNat (n / 256 ^ j)) := by
  induction k generalizing n j with
  | zero => omega
  | succ k ih =>
    match j with
    | 0 => simp [put]
    | j + 1 =>
      simp only [put, List.getElem?_cons_succ]
      rw [ih (n / 256) j (by omega), Nat.div_div_eq_div_mul, Nat.pow_succ']

theorem put_snoc (k n : Nat) : put (k + 1) n = put k n ++ [UInt8.ofNat (n / 256 ^ k)] := by
  induction k generalizing n with
  | zero => simp [put]
  | succ k ih =>
    rw [put, ih (n / 256)]
    simp only [put, List.cons_append, Nat.div_div_eq_div_mul, Nat.pow_succ']

theorem get_put (k n : Nat) (h : k ≤ 8) : get (put k n) = n % 256 ^ k := by
  unfold get
  rw [List.take_of_length_le (by rw [put_length]; exact h), say_put]

theorem get_put_append (n : Nat) (h : n < 18446744073709551616) (s : List UInt8) : get (put 8 n ++ s) = n := by
  unfold get
  rw [List.take_append_of_le_length (by rw [put_length]; exact Nat.le_refl _), List.take_of_length_le (by rw [put_length]; exact Nat.le_refl _), say_put]
  exact Nat.mod_eq_of_lt h

theorem put_mod (k n : Nat) : put k (n % 256 ^ k) = put k n := by
  induction k generalizing n with
  | zero => rfl
  | succ k ih =>
    simp only [put]
    congr 1
    · apply UInt8.toNat_inj.1
      simp only [UInt8.toNat_ofNat']
      rw [Nat.pow_succ', Nat.mod_mul_right_mod]
    · rw [← ih (n / 256), Nat.pow_succ', Nat.mod_mul_right_div_self]

theorem put_say (l : List UInt8) : put l.length (say l) = l := by
  induction l with
  | nil => rfl
  | cons b r ih =>
    have hb := b.toNat_lt
    simp only [List.length_cons, put, say]
    congr 1
    · apply UInt8.toNat_inj.1
      simp only [UInt8.toNat_ofNat']
      omega
    · have : (b.toNat + 256 * say r) / 256 = say r := by omega
      rw [this, ih]

end Go.Rc2

namespace Go.Proofs.YteellffkjjllgaaGreat
open Go.RowKit

theorem take_next (s : ByteArray) (k : Nat) (h : k < s.size) : s.data.toList.take (k + 1) = s.data.toList.take k ++ [s[k]] := by
  have hl : k < s.data.toList.length := by simpa using h
  rw [List.take_succ_eq_append_getElem hl]
  rfl

theorem pow_le8 (k : Nat) (h8 : k < 8) : 256 ^ k * 256 ≤ 18446744073709551616 := by
  have h : 256 ^ (k + 1) ≤ 256 ^ 8 := Nat.pow_le_pow_right (by decide) (by omega)
  have h3 : (256 : Nat) ^ 8 = 18446744073709551616 := by decide
  rw [← Nat.pow_succ]
  omega

theorem say_take_lt (s : ByteArray) (k : Nat) (h : k ≤ s.size) : Rc2.say (s.data.toList.take k) < 256 ^ k := by
  have h1 := Rc2.say_lt (s.data.toList.take k)
  have hl : (s.data.toList.take k).length = k := by simp; omega
  rw [hl] at h1
  exact h1

theorem or_step (s : ByteArray) (k : Nat) (h : k < s.size) (h8 : k < 8) :
    bits BinOp.or IntKind.u64 (Rc2.say (s.data.toList.take k) : Int) (IntKind.u64.wrap (IntKind.u64.wrap (s[k].toNat : Int) * 2 ^ (8 * k))) = ((Rc2.say (s.data.toList.take (k + 1)) : Nat) : Int) := by
  have h1 := say_take_lt s k (by omega)
  have hl : (s.data.toList.take k).length = k := by simp; omega
  have hb := s[k].toNat_lt
  have hp := pow_le8 k h8
  have e : (IntKind.u64.wrap (IntKind.u64.wrap (s[k].toNat : Int) * 2 ^ (8 * k))) = ((s[k].toNat * 256 ^ k : Nat) : Int) := by
    have h2 : (2 : Int) ^ (8 * k) = ((256 ^ k : Nat) : Int) := by
      rw [Int.pow_mul]
      norm_cast
    have hm : s[k].toNat * 256 ^ k ≤ 255 * 256 ^ k := Nat.mul_le_mul_right _ (by omega)
    rw [h2, IntKind.wrap_u64, IntKind.wrap_u64]
    have : (s[k].toNat : Int) % 18446744073709551616 = s[k].toNat := by omega
    rw [this, ← Int.natCast_mul]
    omega
  have hm : s[k].toNat * 256 ^ k ≤ 255 * 256 ^ k := Nat.mul_le_mul_right _ (by omega)
  rw [e, bits_or_u64_nat _ _ (by omega) (by omega), take_next s k h, Rc2.say_append, hl]
  congr 1
  rw [Nat.or_comm]
  have e2 : (256 : Nat) ^ k = 2 ^ (8 * k) := by rw [Nat.pow_mul]
  rw [e2] at h1 ⊢
  have := Nat.shiftLeft_add_eq_or_of_lt h1 s[k].toNat
  rw [Nat.shiftLeft_eq] at this
  rw [← this]
  simp only [Rc2.say, Nat.mul_zero, Nat.add_zero]
  rw [Nat.mul_comm (2 ^ (8 * k)), Nat.add_comm]

theorem get_all (s : ByteArray) (k : Nat) (h : k = min s.size 8) : Rc2.say (s.data.toList.take k) = Rc2.get s.data.toList := by
  unfold Rc2.get
  by_cases h8 : 8 ≤ s.size
  · rw [show k = 8 by omega]
  · rw [List.take_of_length_le (by simp; omega), List.take_of_length_le (by simp; omega)]

set_option maxHeartbeats 1000000 in
theorem Get_any (s : ByteArray) (hs : s.size ≤ maxLen) (w : World) :
    Calls Tryz.prog 30 #[.string s] w fun e w' => e = .returned (.int .u64 (Rc2.get s.data.toList)) ∧ w = w' := by
  have HS := Lib.hid hs
  clear hs
  by_cases h8 : (s.size : Int) ≤ 8
  · go_enter Tryz.func30, Tryz.ntmps30
    go_wp2
    go_loop [3, 8] (fun n i => ∃ k : Nat, n = .int .u64 (Rc2.say (s.data.toList.take k)) ∧ i = .int .i64 k ∧ k ≤ s.size) (fun _ i => (s.size - intOf i).toNat)
    case atStart => exact ⟨0, rfl, rfl, by omega⟩
    case round =>
      obtain ⟨k, rfl, rfl, hk⟩ := hrel
      by_cases hlt : k < s.size
      · have hi : (k : Int) < s.size := by omega
        have ho := or_step s k (by omega) (by omega)
        go_wp2
        go_round
        case rel => exact ⟨k + 1, rfl, by go_num, by omega⟩
        case measure => simp [intOf]; omega
      · have HE := Lib.hid (get_all s k (by omega))
        go_wp2
        go_ret
        rw [HE.out]
        exact ⟨rfl, rfl⟩
  · go_enter Tryz.func30, Tryz.ntmps30
    go_wp2
    go_loop [3, 8] (fun n i => ∃ k : Nat, n = .int .u64 (Rc2.say (s.data.toList.take k)) ∧ i = .int .i64 k ∧ k ≤ 8) (fun _ i => (8 - intOf i).toNat)
    case atStart => exact ⟨0, rfl, rfl, by omega⟩
    case round =>
      obtain ⟨k, rfl, rfl, hk⟩ := hrel
      by_cases hlt : k < 8
      · have hi : (k : Int) < s.size := by omega
        have ho := or_step s k (by omega) (by omega)
        go_wp2
        go_round
        case rel => exact ⟨k + 1, rfl, by go_num, by omega⟩
        case measure => simp [intOf]; omega
      · have HE := Lib.hid (get_all s k (by omega))
        go_wp2
        go_ret
        rw [HE.out]
        exact ⟨rfl, rfl⟩

end Go.Proofs.YteellffkjjllgaaGreat

namespace Go.Proofs.YteellffkjjllgaaGreat
open Go.RowKit

theorem drop_next (l : List UInt8) (k : Nat) (h : k < l.length) : Rc2.say (l.drop k) = l[k].toNat + 256 * Rc2.say (l.drop (k + 1)) := by
  rw [List.drop_eq_getElem_cons h]
  rfl

theorem mul_step (s : ByteArray) (k q : Nat) (h : k < q) (hq : q ≤ s.size) (h8 : q ≤ 8) :
    IntKind.u64.wrap (IntKind.u64.wrap ((Rc2.say ((s.data.toList.take q).drop (k + 1)) : Nat) * 256 : Int) + IntKind.u64.wrap (s[k].toNat : Int)) = ((Rc2.say ((s.data.toList.take q).drop k) : Nat) : Int) := by
  have hl : (s.data.toList.take q).length = q := by simp; omega
  rw [drop_next _ k (by omega)]
  have e : (s.data.toList.take q)[k]'(by omega) = s[k] := by
    rw [List.getElem_take]
    rfl
  rw [e]
  have hb := s[k].toNat_lt
  have h1 := Rc2.say_lt ((s.data.toList.take q).drop (k + 1))
  have h2 : 256 ^ ((s.data.toList.take q).drop (k + 1)).length ≤ 256 ^ 7 := Nat.pow_le_pow_right (by decide) (by rw [List.length_drop]; omega)
  have h3 : (256 : Nat) ^ 7 = 72057594037927936 := by decide
  rw [IntKind.wrap_u64, IntKind.wrap_u64, IntKind.wrap_u64]
  omega

end Go.Proofs.YteellffkjjllgaaGreat

namespace Go.Proofs.YteellffkjjllgaaGreat
open Go.RowKit

def Rd (T b : Nat) (s : ByteArray) (bad : Bool) (w : World) : Prop := w.heap[b]? = some (.cells #[.string s, .bool bad] T (0, 0))

/-- But for one block all is as it was. -/
structure Kept (b : Nat) (w w' : World) : Prop where
  os : w'.os = w.os
  tape : w'.tape = w.tape
  output : w'.output = w.output
  size : w'.heap.size = w.heap.size
  block : ∀ k, k ≠ b → w'.heap[k]? = w.heap[k]?

def no (s : ByteArray) (bad : Bool) (n : Int) : Bool := bad || decide (n < 0) || decide ((s.size : Int) < n)
def txt (s : ByteArray) (bad : Bool) (n : Int) : ByteArray := if no s bad n then .empty else s.extract 0 n.toNat
def num (s : ByteArray) (bad : Bool) (n : Int) : Nat := Rc2.get (txt s (bad || decide (8 < n)) n).data.toList
def lft (s : ByteArray) (bad : Bool) (n : Int) : ByteArray := if no s bad n then s else s.extract n.toNat s.size

theorem Rd.set0 {T b : Nat} {s : ByteArray} {bad : Bool} {w : World} (h : Rd T b s bad w) (t : ByteArray) : Rd T b t bad (w.setCell ⟨b, 0, none⟩ (.string t)) := by
  unfold Rd
  rw [heap_setCell_same w b 0 _ T _ h]
  rfl

theorem Rd.set1 {T b : Nat} {s : ByteArray} {bad : Bool} {w : World} (h : Rd T b s bad w) (t : Bool) : Rd T b s t (w.setCell ⟨b, 1, none⟩ (.bool t)) := by
  unfold Rd
  rw [heap_setCell_same w b 1 _ T _ h]
  rfl

theorem Kept.set (b j : Nat) (w : World) (u : Value) : Kept b w (w.setCell ⟨b, j, none⟩ u) :=
  ⟨rfl, rfl, rfl, by simp [World.setCell], fun k hk => Below.heap_setCell _ _ _ _ hk⟩

theorem Kept.trans {b : Nat} {u v w : World} (h : Kept b u v) (k : Kept b v w) : Kept b u w :=
  ⟨k.os.trans h.os, k.tape.trans h.tape, k.output.trans h.output, k.size.trans h.size, fun i hi => (k.block i hi).trans (h.block i hi)⟩

theorem Kept.below {b B : Nat} {w w' : World} (h : Kept b w w') (hb : B ≤ b) : Below B w w' :=
  ⟨h.os, h.tape, h.output, Nat.le_of_eq h.size.symm, fun k hk => h.block k (by omega)⟩

theorem Rd.kept {T b c : Nat} {s : ByteArray} {bad : Bool} {w w' : World} (h : Rd T b s bad w) (k : Kept c w w') (hb : b ≠ c) : Rd T b s bad w' := by
  unfold Rd
  rw [k.block b hb]
  exact h

theorem Rd.lt {T b : Nat} {s : ByteArray} {bad : Bool} {w : World} (h : Rd T b s bad w) : b < w.heap.size := by
  rcases Nat.lt_or_ge b w.heap.size with h' | h'
  · exact h'
  · unfold Rd at h
    simp [Array.getElem?_eq_none h'] at h

theorem Rd.below {T b : Nat} {s : ByteArray} {bad : Bool} {w w' : World} (h : Rd T b s bad w) (k : Below w.heap.size w w') : Rd T b s bad w' := by
  unfold Rd
  rw [k.block b h.lt]
  exact h

theorem extract_size (s : ByteArray) (i j : Nat) : (s.extract i j).size ≤ s.size := by
  rw [ByteArray.size_extract]
  omega

theorem txt_le (s : ByteArray) (bad : Bool) (n : Int) {m : Nat} (h : s.size ≤ m) : (txt s bad n).size ≤ m := by
  unfold txt
  split
  · exact Nat.zero_le _
  · exact Nat.le_trans (extract_size _ _ _) h

theorem lft_le (s : ByteArray) (bad : Bool) (n : Int) {m : Nat} (h : s.size ≤ m) : (lft s bad n).size ≤ m := by
  unfold lft
  split
  · exact h
  · exact Nat.le_trans (extract_size _ _ _) h

set_option maxHeartbeats 1000000 in
theorem Text_any (b : Nat) (s : ByteArray) (bad : Bool) (n : Int) (w : World) (h : Rd 94 b s bad w) :
    Calls Tryz.prog 75 #[.pointer (some ⟨b, 0, none⟩), .int .i64 n] w fun e w' => e = .returned (.string (txt s bad n)) ∧ Rd 94 b (lft s bad n) (no s bad n) w' ∧ Kept b w w' := by
  have c0 : w.cell? ⟨b, 0, none⟩ = some (.string s) := by rw [Lib.cell_of_heap h]; rfl
  have c1 : w.cell? ⟨b, 1, none⟩ = some (.bool bad) := by rw [Lib.cell_of_heap h]; rfl
  have f0 : w.frozen? ⟨b, 0, none⟩ = false := Lib.frozen_of_heap h 0
  have f1 : w.frozen? ⟨b, 1, none⟩ = false := Lib.frozen_of_heap h 1
  have H := Lib.hid h
  clear h
  by_cases hn : no s bad n = true
  · have HN := Lib.hid hn
    have HE : Hid (txt s bad n = .empty ∧ lft s bad n = s) := by
      unfold txt lft
      rw [hn]
      exact ⟨rfl, rfl⟩
    unfold no at hn
    simp only [Bool.or_eq_true, decide_eq_true_eq] at hn
    cases bad with
    | true =>
      clear hn
      go_enter Tryz.func75, Tryz.ntmps75
      go_wp2
      go_ret
      rw [HE.out.1, HE.out.2, HN.out]
      exact ⟨rfl, H.out.set1 _, .set _ _ _ _⟩
    | false =>
      by_cases h1 : n < 0
      · clear hn
        go_enter Tryz.func75, Tryz.ntmps75
        go_wp2
        go_ret
        rw [HE.out.1, HE.out.2, HN.out]
        exact ⟨rfl, H.out.set1 _, .set _ _ _ _⟩
      · have h2 : (s.size : Int) < n := by
          rcases hn with (hn | hn) | hn
          · cases hn
          · exact absurd hn h1
          · exact hn
        clear hn
        go_enter Tryz.func75, Tryz.ntmps75
        go_wp2
        go_ret
        rw [HE.out.1, HE.out.2, HN.out]
        exact ⟨rfl, H.out.set1 _, .set _ _ _ _⟩
  · rw [Bool.not_eq_true] at hn
    have HN := Lib.hid hn
    have HE : Hid (txt s bad n = s.extract 0 n.toNat ∧ lft s bad n = s.extract n.toNat s.size) := by
      unfold txt lft
      rw [hn]
      exact ⟨rfl, rfl⟩
    unfold no at hn
    simp only [Bool.or_eq_false_iff, decide_eq_false_iff_not] at hn
    obtain ⟨⟨rfl, h1⟩, h2⟩ := hn
    have h3 : 0 ≤ n := by omega
    have h4 : n ≤ s.size := by omega
    go_enter Tryz.func75, Tryz.ntmps75
    go_wp2
    go_ret
    rw [HE.out.1, HE.out.2, HN.out]
    exact ⟨rfl, H.out.set0 _, .set _ _ _ _⟩

set_option maxHeartbeats 1000000 in
theorem Number_any (b : Nat) (s : ByteArray) (bad : Bool) (n : Int) (hs : s.size ≤ maxLen) (w : World) (h : Rd 94 b s bad w) :
    Calls Tryz.prog 51 #[.pointer (some ⟨b, 0, none⟩), .int .i64 n] w fun e w' => e = .returned (.int .u64 (num s bad n)) ∧ Rd 94 b (lft s (bad || decide (8 < n)) n) (no s (bad || decide (8 < n)) n) w' ∧ Kept b w w' := by
  have c0 : w.cell? ⟨b, 0, none⟩ = some (.string s) := by rw [Lib.cell_of_heap h]; rfl
  have c1 : w.cell? ⟨b, 1, none⟩ = some (.bool bad) := by rw [Lib.cell_of_heap h]; rfl
  have f1 : w.frozen? ⟨b, 1, none⟩ = false := Lib.frozen_of_heap h 1
  have H := Lib.hid h
  clear h
  unfold num
  by_cases h8 : 8 < n
  · have e : (bad || decide (8 < n)) = true := by simp [h8]
    rw [e]
    clear e
    have HT := Lib.hid (Text_any b s true n _ (H.out.set1 true))
    have HG := Lib.hid (Get_any (txt s true n) (txt_le s true n hs))
    clear hs
    go_enter Tryz.func51, Tryz.ntmps51
    go_wp2_with (first | (go_at_call 75; refine (HT.out).mono ?_; rintro e w1 ⟨rfl, hr, hk⟩) | (go_at_call 30; refine (HG.out _).mono ?_; rintro e w2 ⟨rfl, rfl⟩))
    go_ret
    exact ⟨rfl, hr, Kept.trans (.set _ _ _ _) hk⟩
  · have e : (bad || decide (8 < n)) = bad := by simp [h8]
    rw [e]
    clear e
    have HT := Lib.hid (Text_any b s bad n w H.out)
    have HG := Lib.hid (Get_any (txt s bad n) (txt_le s bad n hs))
    clear hs
    go_enter Tryz.func51, Tryz.ntmps51
    go_wp2_with (first | (go_at_call 75; refine (HT.out).mono ?_; rintro e w1 ⟨rfl, hr, hk⟩) | (go_at_call 30; refine (HG.out _).mono ?_; rintro e w2 ⟨rfl, rfl⟩))
    go_ret
    exact ⟨rfl, hr, hk⟩

end Go.Proofs.YteellffkjjllgaaGreat

namespace Go.Rc5

abbrev Sp := Nat × Nat

/-- Is x a sector of the span? -/
def inB (s : Sp) (x : Nat) : Bool := decide (s.1 ≤ x) && decide (x < s.1 + s.2)

theorem inB_iff (s : Sp) (x : Nat) : inB s x = true ↔ s.1 ≤ x ∧ x < s.1 + s.2 := by simp [inB]

def memB (l : List Sp) (x : Nat) : Bool := l.any fun s => inB s x

theorem memB_nil (x : Nat) : memB [] x = false := rfl
theorem memB_cons (s : Sp) (l : List Sp) (x : Nat) : memB (s :: l) x = (inB s x || memB l x) := by simp [memB]
theorem memB_append (l l' : List Sp) (x : Nat) : memB (l ++ l') x = (memB l x || memB l' x) := by simp [memB]
theorem memB_iff (l : List Sp) (x : Nat) : memB l x = true ↔ ∃ s ∈ l, s.1 ≤ x ∧ x < s.1 + s.2 := by simp [memB, inB_iff]

/-- A row with gaps between, none of it below lo. -/
def Ch : Nat → List Sp → Prop
  | _, [] => True
  | lo, s :: r => lo ≤ s.1 ∧ 1 ≤ s.2 ∧ Ch (s.1 + s.2 + 1) r

theorem Ch.mono {lo lo' : Nat} {l : List Sp} (h : Ch lo l) (hl : lo' ≤ lo) : Ch lo' l := by
  cases l with
  | nil => trivial
  | cons s r => exact ⟨Nat.le_trans hl h.1, h.2⟩

theorem Ch.ge {lo : Nat} {l : List Sp} (h : Ch lo l) {x : Nat} (hx : memB l x = true) : lo ≤ x := by
  induction l generalizing lo with
  | nil => cases hx
  | cons s r ih =>
    rw [memB_cons, Bool.or_eq_true, inB_iff] at hx
    rcases hx with hx | hx
    · have := h.1; omega
    · have := ih h.2.2 hx; have := h.1; omega

theorem Ch.unique {lo lo' : Nat} {l l' : List Sp} (h : Ch lo l) (h' : Ch lo' l') (he : ∀ x, memB l x = memB l' x) : l = l' := by
  induction l generalizing lo lo' l' with
  | nil =>
    cases l' with
    | nil => rfl
    | cons s r =>
      have := he s.1
      have hh := h'.2.1
      rw [memB_nil, memB_cons, (inB_iff s s.1).2 ⟨Nat.le_refl _, by omega⟩] at this
      cases this
  | cons s r ih =>
    cases l' with
    | nil =>
      have := he s.1
      have hh := h.2.1
      rw [memB_nil, memB_cons, (inB_iff s s.1).2 ⟨Nat.le_refl _, by omega⟩] at this
      cases this
    | cons t q =>
      have hs := h.2.1
      have ht := h'.2.1
      have ge1 : ∀ x, memB (s :: r) x = true → s.1 ≤ x := fun x hx => Ch.ge (l := s :: r) (lo := s.1) ⟨Nat.le_refl _, h.2⟩ hx
      have ge2 : ∀ x, memB (t :: q) x = true → t.1 ≤ x := fun x hx => Ch.ge (l := t :: q) (lo := t.1) ⟨Nat.le_refl _, h'.2⟩ hx
      have own1 : ∀ x, s.1 ≤ x → x < s.1 + s.2 → memB (s :: r) x = true := fun x a b => by rw [memB_cons, (inB_iff s x).2 ⟨a, b⟩]; rfl
      have own2 : ∀ x, t.1 ≤ x → x < t.1 + t.2 → memB (t :: q) x = true := fun x a b => by rw [memB_cons, (inB_iff t x).2 ⟨a, b⟩]; rfl
      have e1 : s.1 = t.1 := by
        have a := ge2 s.1 (by rw [← he]; exact own1 _ (Nat.le_refl _) (by omega))
        have b := ge1 t.1 (by rw [he]; exact own2 _ (Nat.le_refl _) (by omega))
        omega
      have far1 : ∀ x, memB r x = true → s.1 + s.2 + 1 ≤ x := fun x hx => h.2.2.ge hx
      have far2 : ∀ x, memB q x = true → t.1 + t.2 + 1 ≤ x := fun x hx => h'.2.2.ge hx
      have gap1 : memB (s :: r) (s.1 + s.2) = false := by
        rw [Bool.eq_false_iff]
        intro hx
        rw [memB_cons, Bool.or_eq_true, inB_iff] at hx
        rcases hx with hx | hx
        · omega
        · have := far1 _ hx; omega
      have gap2 : memB (t :: q) (t.1 + t.2) = false := by
        rw [Bool.eq_false_iff]
        intro hx
        rw [memB_cons, Bool.or_eq_true, inB_iff] at hx
        rcases hx with hx | hx
        · omega
        · have := far2 _ hx; omega
      have e2 : s.2 = t.2 := by
        by_cases a : s.2 < t.2
        · have := own2 (s.1 + s.2) (by omega) (by omega)
          rw [← he, gap1] at this
          cases this
        · by_cases b : t.2 < s.2
          · have := own1 (t.1 + t.2) (by omega) (by omega)
            rw [he, gap2] at this
            cases this
          · omega
      have est : s = t := Prod.ext e1 e2
      subst est
      have hr : r = q := by
        refine ih h.2.2 h'.2.2 (fun x => ?_)
        have hx := he x
        rw [memB_cons, memB_cons] at hx
        by_cases hi : inB s x = true
        · have hi' := (inB_iff s x).1 hi
          have n1 : memB r x = false := by rw [Bool.eq_false_iff]; intro e; have := far1 _ e; omega
          have n2 : memB q x = false := by rw [Bool.eq_false_iff]; intro e; have := far2 _ e; omega
          rw [n1, n2]
        · have hi' : inB s x = false := by simpa using hi
          rw [hi', Bool.false_or, Bool.false_or] at hx
          exact hx
      rw [hr]

theorem Ch.snoc {lo : Nat} {l : List Sp} (h : Ch lo l) {a m : Nat} (hlo : lo ≤ a) (hm : 1 ≤ m) (he : ∀ s ∈ l, s.1 + s.2 + 1 ≤ a) : Ch lo (l ++ [(a, m)]) := by
  induction l generalizing lo with
  | nil => exact ⟨hlo, hm, trivial⟩
  | cons s r ih => exact ⟨h.1, h.2.1, ih h.2.2 (he s List.mem_cons_self) (fun t ht => he t (List.mem_cons_of_mem _ ht))⟩

theorem Ch.grow {lo : Nat} {l : List Sp} {a m m' : Nat} (h : Ch lo (l ++ [(a, m)])) (hm : 1 ≤ m') : Ch lo (l ++ [(a, m')]) := by
  induction l generalizing lo with
  | nil => exact ⟨h.1, hm, trivial⟩
  | cons s r ih => exact ⟨h.1, h.2.1, ih h.2.2⟩

/-- The last span with a sector more. -/
def bump (l : List Sp) : List Sp := l.dropLast ++ [((l.getLast?.getD (0, 0)).1, (l.getLast?.getD (0, 0)).2 + 1)]

theorem bump_snoc (l : List Sp) (s : Sp) : bump (l ++ [s]) = l ++ [(s.1, s.2 + 1)] := by simp [bump]

/-- The row of the sectors below n that f marks. -/
def rows (f : Nat → Bool) : Nat → List Sp
  | 0 => []
  | n + 1 => if f n then (if 0 < n ∧ f (n - 1) = true then bump (rows f n) else rows f n ++ [(n, 1)]) else rows f n

structure RowsOk (f : Nat → Bool) (n : Nat) : Prop where
  mem : ∀ x, memB (rows f n) x = (decide (x < n) && f x)
  ch : Ch 0 (rows f n)
  last : 0 < n → f (n - 1) = true → ∃ l a m, rows f n = l ++ [(a, m)] ∧ a + m = n ∧ 1 ≤ m
  free : ¬ (0 < n ∧ f (n - 1) = true) → ∀ s ∈ rows f n, s.1 + s.2 + 1 ≤ n

theorem rows_ok (f : Nat → Bool) (n : Nat) : RowsOk f n := by
  induction n with
  | zero => exact ⟨fun x => by simp [rows, memB], trivial, fun h => absurd h (Nat.lt_irrefl _), fun _ s hs => by cases hs⟩
  | succ n ih =>
    by_cases hf : f n = true
    · by_cases hp : 0 < n ∧ f (n - 1) = true
      · obtain ⟨l, a, m, e, ham, hm⟩ := ih.last hp.1 hp.2
        have er : rows f (n + 1) = l ++ [(a, m + 1)] := by rw [rows, if_pos hf, if_pos hp, e, bump_snoc]
        refine ⟨fun x => ?_, ?_, fun _ _ => ⟨l, a, m + 1, er, by omega, by omega⟩, fun h => absurd ⟨Nat.succ_pos _, hf⟩ h⟩
        · have h0 := ih.mem x
          rw [e, memB_append] at h0
          rw [er, memB_append]
          have one : ∀ k, memB [(a, k)] x = inB (a, k) x := fun k => by simp [memB]
          rw [one] at h0 ⊢
          by_cases hx : x = n
          · subst hx
            have : inB (a, m + 1) x = true := (inB_iff _ _).2 ⟨by show a ≤ x; omega, by show x < a + (m + 1); omega⟩
            rw [this, hf]
            simp
          · have e2 : inB (a, m + 1) x = inB (a, m) x := by
              rw [Bool.eq_iff_iff, inB_iff, inB_iff]
              show (a ≤ x ∧ x < a + (m + 1)) ↔ (a ≤ x ∧ x < a + m)
              omega
            have e3 : decide (x < n + 1) = decide (x < n) := by
              rw [decide_eq_decide]
              omega
            rw [e2, h0, e3]
        · rw [er]
          have := ih.ch
          rw [e] at this
          exact this.grow (by omega)
      · have er : rows f (n + 1) = rows f n ++ [(n, 1)] := by rw [rows, if_pos hf, if_neg hp]
        have hfree := ih.free hp
        refine ⟨fun x => ?_, ?_, fun _ _ => ⟨_, n, 1, er, rfl, Nat.le_refl _⟩, fun h => absurd ⟨Nat.succ_pos _, hf⟩ h⟩
        · rw [er, memB_append, ih.mem]
          have one : memB [(n, 1)] x = decide (x = n) := by
            rw [show memB [(n, 1)] x = inB (n, 1) x by simp [memB], Bool.eq_iff_iff, inB_iff, decide_eq_true_eq]
            show (n ≤ x ∧ x < n + 1) ↔ x = n
            omega
          rw [one]
          by_cases hx : x = n
          · subst hx
            simp [hf]
          · have e3 : decide (x < n + 1) = decide (x < n) := by
              rw [decide_eq_decide]
              omega
            rw [e3]
            simp [hx]
        · rw [er]
          exact ih.ch.snoc (Nat.zero_le _) (Nat.le_refl _) hfree
    · have hf' : f n = false := by simpa using hf
      have er : rows f (n + 1) = rows f n := by rw [rows, if_neg hf]
      refine ⟨fun x => ?_, by rw [er]; exact ih.ch, fun _ h => absurd h hf, fun _ s hs => ?_⟩
      · rw [er, ih.mem]
        by_cases hx : x = n
        · subst hx
          simp [hf']
        · have e3 : decide (x < n + 1) = decide (x < n) := by
            rw [decide_eq_decide]
            omega
          rw [e3]
      · rw [er] at hs
        by_cases hp : 0 < n ∧ f (n - 1) = true
        · obtain ⟨l, a, m, e, ham, hm⟩ := ih.last hp.1 hp.2
          rw [e, List.mem_append, List.mem_singleton] at hs
          rcases hs with hs | rfl
          · have hc := ih.ch
            rw [e] at hc
            have hsa : ∀ (lo : Nat) (l : List Sp), Ch lo (l ++ [(a, m)]) → ∀ s ∈ l, s.1 + s.2 + 1 ≤ a := by
              intro lo l
              induction l generalizing lo with
              | nil => intro _ s hs; cases hs
              | cons t r iht =>
                intro hc s hs
                rw [List.mem_cons] at hs
                rcases hs with rfl | hs
                · have : memB (r ++ [(a, m)]) a = true := by rw [memB_iff]; exact ⟨(a, m), by simp, Nat.le_refl _, by show a < a + m; omega⟩
                  exact Ch.ge hc.2.2 this
                · exact iht _ hc.2.2 s hs
            have := hsa 0 l hc s hs
            omega
          · show a + m + 1 ≤ n + 1
            omega
        · have := ih.free hp s hs
          omega

theorem rows_len (f : Nat → Bool) (n : Nat) : (rows f n).length ≤ n := by
  induction n with
  | zero => exact Nat.le_refl _
  | succ n ih =>
    rw [rows]
    split
    · split
      · rename_i h
        obtain ⟨l, a, m, e, _, _⟩ := (rows_ok f n).last h.1 h.2
        rw [e, bump_snoc]
        rw [e] at ih
        simp at ih ⊢
        omega
      · simp; omega
    · omega

/-- A row with gaps is the row of its sectors. -/
theorem rows_mem {l : List Sp} {lo n : Nat} (h : Ch lo l) (hn : ∀ x, memB l x = true → x < n) : rows (memB l) n = l := by
  refine (rows_ok (memB l) n).ch.unique h (fun x => ?_)
  rw [(rows_ok (memB l) n).mem]
  by_cases hx : memB l x = true
  · rw [hx, decide_eq_true (hn x hx)]; rfl
  · have : memB l x = false := by simpa using hx
    rw [this, Bool.and_false]

theorem rows_congr {f g : Nat → Bool} {n : Nat} (h : ∀ x, x < n → f x = g x) : rows f n = rows g n := by
  refine (rows_ok f n).ch.unique (rows_ok g n).ch (fun x => ?_)
  rw [(rows_ok f n).mem, (rows_ok g n).mem]
  by_cases hx : x < n
  · rw [h x hx]
  · simp [hx]

theorem rows_inj {f g : Nat → Bool} {n : Nat} (h : rows f n = rows g n) (x : Nat) (hx : x < n) : f x = g x := by
  have h1 := (rows_ok f n).mem x
  have h2 := (rows_ok g n).mem x
  rw [h, h2] at h1
  simpa [hx] using h1.symm

/-- How many sectors below n. -/
def cnt (f : Nat → Bool) : Nat → Nat
  | 0 => 0
  | n + 1 => cnt f n + if f n then 1 else 0

def total (l : List Sp) : Nat := (l.map (·.2)).sum

theorem total_nil : total [] = 0 := rfl
theorem total_cons (s : Sp) (l : List Sp) : total (s :: l) = s.2 + total l := by simp [total]
theorem total_append (l l' : List Sp) : total (l ++ l') = total l + total l' := by simp [total]

theorem cnt_congr {f g : Nat → Bool} {n : Nat} (h : ∀ x, x < n → f x = g x) : cnt f n = cnt g n := by
  induction n with
  | zero => rfl
  | succ n ih => rw [cnt, cnt, ih (fun x hx => h x (by omega)), h n (by omega)]

theorem cnt_or {f g : Nat → Bool} {n : Nat} (h : ∀ x, x < n → f x = true → g x = false) : cnt (fun x => f x || g x) n = cnt f n + cnt g n := by
  induction n with
  | zero => rfl
  | succ n ih =>
    rw [cnt, cnt, cnt, ih (fun x hx => h x (by omega))]
    cases hf : f n with
    | true => rw [h n (by omega) hf]; simp; omega
    | false => simp; omega

theorem cnt_not (f : Nat → Bool) (n : Nat) : cnt f n + cnt (fun x => !f x) n = n := by
  induction n with
  | zero => rfl
  | succ n ih =>
    rw [cnt, cnt]
    cases hf : f n <;> simp <;> omega

theorem cnt_le (f : Nat → Bool) (n : Nat) : cnt f n ≤ n := by
  have := cnt_not f n
  omega

theorem cnt_span (s : Sp) (n : Nat) : cnt (inB s) n = min n (s.1 + s.2) - s.1 := by
  induction n with
  | zero => simp [cnt]
  | succ n ih =>
    rw [cnt, ih]
    by_cases h : inB s n = true
    · have := (inB_iff s n).1 h
      rw [if_pos h]
      omega
    · have h' : ¬ (s.1 ≤ n ∧ n < s.1 + s.2) := fun e => h ((inB_iff s n).2 e)
      rw [if_neg h]
      omega

/-- No sector in common. -/
def Apart (s t : Sp) : Prop := ∀ x, inB s x = true → inB t x = false

theorem memB_apart {s : Sp} {l : List Sp} (h : ∀ t ∈ l, Apart s t) (x : Nat) (hx : inB s x = true) : memB l x = false := by
  rw [Bool.eq_false_iff]
  intro e
  rw [memB, List.any_eq_true] at e
  obtain ⟨t, ht, hi⟩ := e
  rw [h t ht x hx] at hi
  cases hi

theorem cnt_none (n : Nat) : cnt (memB []) n = 0 := by
  induction n with
  | zero => rfl
  | succ n ih => rw [cnt, ih, memB_nil]; rfl

theorem total_cnt {l : List Sp} {n : Nat} (h : l.Pairwise Apart) (hb : ∀ s ∈ l, s.1 + s.2 ≤ n) : total l = cnt (memB l) n := by
  induction l with
  | nil => rw [total_nil, cnt_none]
  | cons s r ih =>
    rw [List.pairwise_cons] at h
    have hs := hb s List.mem_cons_self
    rw [total_cons, ih h.2 (fun t ht => hb t (List.mem_cons_of_mem _ ht)), cnt_congr (g := fun x => inB s x || memB r x) (fun x _ => memB_cons s r x), cnt_or (fun x _ hx => memB_apart h.1 x hx), cnt_span]
    omega

theorem Ch.apart {lo : Nat} {l : List Sp} (h : Ch lo l) : l.Pairwise Apart := by
  induction l generalizing lo with
  | nil => exact List.Pairwise.nil
  | cons s r ih =>
    refine List.Pairwise.cons (fun t ht x hx => ?_) (ih h.2.2)
    rw [Bool.eq_false_iff]
    intro e
    have h1 := (inB_iff s x).1 hx
    have h2 := h.2.2.ge (x := x) (by rw [memB, List.any_eq_true]; exact ⟨t, ht, e⟩)
    omega

theorem Ch.some {lo : Nat} {l : List Sp} (h : Ch lo l) : ∀ s ∈ l, 1 ≤ s.2 := by
  induction l generalizing lo with
  | nil => intro s hs; cases hs
  | cons t r ih =>
    intro s hs
    rw [List.mem_cons] at hs
    rcases hs with rfl | hs
    · exact h.2.1
    · exact ih h.2.2 s hs

end Go.Rc5

namespace Go.Rc6
open Go.Rc5

structure Hd where
  gen : Nat
  sectors : Nat
  size : Nat
  spans : List Sp

def need (size : Nat) : Nat := size / 64 + if size % 64 > 0 then 1 else 0

structure Hd.Ok (h : Hd) : Prop where
  gen : h.gen < 18446744073709551616
  low : 2 ≤ h.sectors
  high : h.sectors ≤ 8192
  few : h.spans.length ≤ 8
  chain : Ch 0 h.spans
  fit : ∀ s ∈ h.spans, s.1 + s.2 ≤ h.sectors
  not0 : memB h.spans 0 = false
  not1 : memB h.spans 1 = false
  total : Rc5.total h.spans = need h.size

theorem need_le {size n : Nat} (h : need size ≤ n) : size ≤ 64 * n := by
  unfold need at h
  split at h <;> omega

theorem cnt_all (f : Nat → Bool) (n : Nat) : cnt f n ≤ n := cnt_le f n

theorem Hd.Ok.size_lt {h : Hd} (k : h.Ok) : h.size ≤ 524288 := by
  have h1 : Rc5.total h.spans ≤ h.sectors := by
    rw [total_cnt k.chain.apart k.fit]
    exact cnt_le _ _
  have h2 := need_le (size := h.size) (n := 8192) (by have := k.total; have := k.high; omega)
  omega

/-! Bytes -/

def magic : List UInt8 := [114, 116, 99, 108]

def spanB (s : Sp) : List UInt8 := Rc2.put 2 s.1 ++ Rc2.put 2 s.2

def spansB (l : List Sp) : List UInt8 := l.flatMap spanB

theorem spanB_length (s : Sp) : (spanB s).length = 4 := by simp [spanB, Rc2.put_length]

theorem spansB_length (l : List Sp) : (spansB l).length = 4 * l.length := by
  induction l with
  | nil => rfl
  | cons s l ih =>
    simp only [spansB, List.flatMap_cons, List.length_append, spanB_length, List.length_cons] at ih ⊢
    omega

def body (h : Hd) : List UInt8 := magic ++ (Rc2.put 8 h.gen ++ (Rc2.put 2 h.sectors ++ (Rc2.put 4 h.size ++ (Rc2.put 1 h.spans.length ++ spansB h.spans))))

theorem body_length (h : Hd) : (body h).length = 19 + 4 * h.spans.length := by
  simp only [body, magic, List.length_append, Rc2.put_length, spansB_length, List.length_cons, List.length_nil]
  omega

def text (h : Hd) : List UInt8 := body h ++ List.replicate (60 - (body h).length) 0

theorem text_length (h : Hd) (k : h.spans.length ≤ 8) : (text h).length = 60 := by
  have := body_length h
  simp only [text, List.length_append, List.length_replicate]
  omega

/-- What lies in bytes at p, n of them. -/
def cut (t : List UInt8) (p n : Nat) : List UInt8 := (t.drop p).take n

def many (t : List UInt8) : Nat := Rc2.say (cut t 18 1)

def readSpans (t : List UInt8) : Nat → List Sp
  | 0 => []
  | k + 1 => readSpans t k ++ [(Rc2.say (cut t (19 + 4 * k) 2), Rc2.say (cut t (21 + 4 * k) 2))]

def unhead (t : List UInt8) : Hd := ⟨Rc2.say (cut t 4 8), Rc2.say (cut t 12 2), Rc2.say (cut t 14 4), readSpans t (many t)⟩

theorem readSpans_length (t : List UInt8) (k : Nat) : (readSpans t k).length = k := by
  induction k with
  | zero => rfl
  | succ k ih => simp [readSpans, ih]

theorem cut_append (a b c : List UInt8) (p n : Nat) (hp : a.length = p) (hn : b.length = n) : cut (a ++ (b ++ c)) p n = b := by
  subst hp hn
  simp [cut]

theorem cut_length (t : List UInt8) (p n : Nat) (h : p + n ≤ t.length) : (cut t p n).length = n := by
  simp only [cut, List.length_take, List.length_drop]
  omega

theorem cut_join (t : List UInt8) (p n m : Nat) : cut t p n ++ cut t (p + n) m = cut t p (n + m) := by
  unfold cut
  rw [List.take_add, List.drop_drop]

theorem spansB_snoc (l : List Sp) (s : Sp) : spansB (l ++ [s]) = spansB l ++ spanB s := by simp [spansB]

theorem put_cut (t : List UInt8) (p n : Nat) (h : p + n ≤ t.length) : Rc2.put n (Rc2.say (cut t p n)) = cut t p n := by
  have := Rc2.put_say (cut t p n)
  rwa [cut_length t p n h] at this

theorem spansB_read (t : List UInt8) (k : Nat) (h : 19 + 4 * k ≤ t.length) : spansB (readSpans t k) = cut t 19 (4 * k) := by
  induction k with
  | zero => simp [readSpans, spansB, cut]
  | succ k ih =>
    rw [readSpans, spansB_snoc, ih (by omega), spanB]
    simp only
    rw [put_cut t _ 2 (by omega), put_cut t _ 2 (by omega)]
    have h1 := cut_join t (19 + 4 * k) 2 2
    rw [show 19 + 4 * k + 2 = 21 + 4 * k by omega] at h1
    rw [h1, cut_join t 19 (4 * k) 4]
    rfl

/-- The bytes of the head that bytes say: theirs, but for the first four and what lies behind. -/
theorem body_unhead (t : List UInt8) (hl : t.length = 60) (hm : many t ≤ 8) : body (unhead t) = magic ++ cut t 4 (15 + 4 * many t) := by
  have h1 : Rc2.put 1 (many t) = cut t 18 1 := put_cut t 18 1 (by omega)
  simp only [body, unhead, readSpans_length]
  rw [put_cut t 4 8 (by omega), put_cut t 12 2 (by omega), put_cut t 14 4 (by omega), h1, spansB_read t _ (by omega), cut_join t 18 1, cut_join t 14 4, cut_join t 12 2, cut_join t 4 8]
  congr 2
  omega

theorem split_cut (t : List UInt8) (m : Nat) : t = cut t 0 4 ++ (cut t 4 (15 + 4 * m) ++ t.drop (19 + 4 * m)) := by
  have e1 := cut_join t 0 4 (15 + 4 * m)
  rw [Nat.zero_add] at e1
  rw [← List.append_assoc, e1, show 4 + (15 + 4 * m) = 19 + 4 * m by omega]
  simp [cut]

theorem noughts_iff (t : List UInt8) (hl : t.length = 60) (p : Nat) : t.drop p = List.replicate (60 - p) 0 ↔ ∀ j, p ≤ j → j < 60 → t[j]? = some 0 := by
  constructor
  · intro h j h1 h2
    have := congrArg (fun l => l[j - p]?) h
    simp only [List.getElem?_drop, List.getElem?_replicate] at this
    rw [show p + (j - p) = j by omega] at this
    rw [this, if_pos (by omega)]
  · intro h
    apply List.ext_getElem?
    intro j
    simp only [List.getElem?_drop, List.getElem?_replicate]
    by_cases hj : j < 60 - p
    · rw [if_pos hj, h _ (by omega) (by omega)]
    · rw [if_neg hj, List.getElem?_eq_none (by omega)]

theorem text_unhead (t : List UInt8) (hl : t.length = 60) (hm : many t ≤ 8) : text (unhead t) = magic ++ (cut t 4 (15 + 4 * many t) ++ List.replicate (60 - (19 + 4 * many t)) 0) := by
  have hb := body_length (unhead t)
  rw [show (unhead t).spans.length = many t from readSpans_length t _] at hb
  rw [text, hb, body_unhead t hl hm, List.append_assoc]

theorem text_unhead_iff (t : List UInt8) (hl : t.length = 60) (hm : many t ≤ 8) :
    text (unhead t) = t ↔ cut t 0 4 = magic ∧ ∀ j, 19 + 4 * many t ≤ j → j < 60 → t[j]? = some 0 := by
  rw [← noughts_iff t hl, text_unhead t hl hm]
  have hc := cut_length t 0 4 (by omega)
  have hs := split_cut t (many t)
  constructor
  · intro h
    have h1 := List.append_inj (h.trans hs) (by rw [hc]; rfl)
    exact ⟨h1.1.symm, (List.append_inj h1.2 rfl).2.symm⟩
  · rintro ⟨h1, h2⟩
    rw [← h1, ← h2]
    exact hs.symm

/-! The head of a head's bytes is that head. -/

theorem say_put_lt (k n : Nat) (h : n < 256 ^ k) : Rc2.say (Rc2.put k n) = n := by
  rw [Rc2.say_put, Nat.mod_eq_of_lt h]

theorem cut_mid (a b c d : List UInt8) (p n : Nat) (hp : a.length = p) (hn : b.length = n) : cut (a ++ (b ++ c) ++ d) p n = b := by
  rw [List.append_assoc, List.append_assoc]
  exact cut_append a b (c ++ d) p n hp hn

theorem readSpans_app (a : List UInt8) (ha : a.length = 19) (l : List Sp) (r : List UInt8) (hl : ∀ s ∈ l, s.1 < 65536 ∧ s.2 < 65536) (k : Nat) (hk : k ≤ l.length) : readSpans (a ++ (spansB l ++ r)) k = l.take k := by
  induction k with
  | zero => rfl
  | succ k ih =>
    rw [readSpans, ih (by omega), List.take_succ_eq_append_getElem (by omega)]
    obtain ⟨h1, h2⟩ := hl _ (List.getElem_mem (by omega : k < l.length))
    have e : spansB l = spansB (l.take k) ++ (spanB l[k] ++ spansB (l.drop (k + 1))) := by
      have h3 : l = l.take k ++ (l[k] :: l.drop (k + 1)) := by rw [← List.drop_eq_getElem_cons (by omega : k < l.length), List.take_append_drop]
      have h4 := congrArg spansB h3
      rw [h4]
      simp only [spansB, List.flatMap_append, List.flatMap_cons]
    have hlen : (a ++ spansB (l.take k)).length = 19 + 4 * k := by
      rw [List.length_append, ha, spansB_length, List.length_take]
      omega
    have ex : a ++ (spansB l ++ r) = (a ++ spansB (l.take k)) ++ (Rc2.put 2 l[k].1 ++ (Rc2.put 2 l[k].2 ++ (spansB (l.drop (k + 1)) ++ r))) := by
      rw [e, spanB]
      simp only [List.append_assoc]
    have ey : a ++ (spansB l ++ r) = ((a ++ spansB (l.take k)) ++ Rc2.put 2 l[k].1) ++ (Rc2.put 2 l[k].2 ++ (spansB (l.drop (k + 1)) ++ r)) := by
      rw [ex]
      simp only [List.append_assoc]
    have c1 : cut (a ++ (spansB l ++ r)) (19 + 4 * k) 2 = Rc2.put 2 l[k].1 := by
      rw [ex]
      exact cut_append _ _ _ _ _ hlen (Rc2.put_length _ _)
    have c2 : cut (a ++ (spansB l ++ r)) (21 + 4 * k) 2 = Rc2.put 2 l[k].2 := by
      rw [ey]
      exact cut_append _ _ _ _ _ (by rw [List.length_append, hlen, Rc2.put_length]; omega) (Rc2.put_length _ _)
    rw [c1, c2, say_put_lt 2 _ (by omega), say_put_lt 2 _ (by omega)]

theorem unhead_text {h : Hd} (k : h.Ok) : unhead (text h) = h ∧ many (text h) = h.spans.length := by
  have hz := k.size_lt
  have hg := k.gen
  have hh := k.high
  have hf := k.few
  obtain ⟨gen, sectors, size, spans⟩ := h
  simp only at hz hg hh hf
  have fit : ∀ s ∈ spans, s.1 + s.2 ≤ sectors := k.fit
  let Z := List.replicate (60 - (body ⟨gen, sectors, size, spans⟩).length) (0 : UInt8)
  have ht : text ⟨gen, sectors, size, spans⟩ = magic ++ (Rc2.put 8 gen ++ (Rc2.put 2 sectors ++ (Rc2.put 4 size ++ (Rc2.put 1 spans.length ++ (spansB spans ++ Z))))) := by
    show body _ ++ Z = _
    simp only [body, List.append_assoc]
  have p1 := Rc2.put_length 8 gen
  have p2 := Rc2.put_length 2 sectors
  have p3 := Rc2.put_length 4 size
  have p4 := Rc2.put_length 1 spans.length
  have m4 : magic.length = 4 := rfl
  have c1 : cut (text ⟨gen, sectors, size, spans⟩) 4 8 = Rc2.put 8 gen := by
    rw [ht]
    exact cut_append _ _ _ _ _ m4 p1
  have c2 : cut (text ⟨gen, sectors, size, spans⟩) 12 2 = Rc2.put 2 sectors := by
    rw [ht, ← List.append_assoc]
    exact cut_append _ _ _ _ _ (by simp only [List.length_append]; omega) p2
  have c3 : cut (text ⟨gen, sectors, size, spans⟩) 14 4 = Rc2.put 4 size := by
    rw [ht, ← List.append_assoc, ← List.append_assoc]
    exact cut_append _ _ _ _ _ (by simp only [List.length_append]; omega) p3
  have c4 : cut (text ⟨gen, sectors, size, spans⟩) 18 1 = Rc2.put 1 spans.length := by
    rw [ht, ← List.append_assoc, ← List.append_assoc, ← List.append_assoc]
    exact cut_append _ _ _ _ _ (by simp only [List.length_append]; omega) p4
  have hm : many (text ⟨gen, sectors, size, spans⟩) = spans.length := by
    rw [many, c4, say_put_lt 1 _ (by omega)]
  have hr : readSpans (text ⟨gen, sectors, size, spans⟩) spans.length = spans := by
    rw [ht, ← List.append_assoc, ← List.append_assoc, ← List.append_assoc, ← List.append_assoc, readSpans_app _ (by simp only [List.length_append]; omega) spans Z (fun s hs => by have := fit s hs; omega) _ (Nat.le_refl _), List.take_length]
  refine ⟨?_, hm⟩
  rw [unhead, hm, hr, c1, c2, c3, say_put_lt 8 _ (by omega), say_put_lt 2 _ (by omega), say_put_lt 4 _ (by omega)]

theorem text_inj {h h' : Hd} (k : h.Ok) (k' : h'.Ok) (e : text h = text h') : h = h' := by
  rw [← (unhead_text k).1, ← (unhead_text k').1, e]

end Go.Rc6

namespace Go.Rc1

def bt (l : List UInt8) (i : Nat) : Nat := (l.getD i 0).toNat

/-- What a list of bytes begins with: a rune and its width; of a wrong byte (65533, 1). -/
def dec (l : List UInt8) : Nat × Nat := Lib.decodeN l.length (bt l 0) (bt l 1) (bt l 2) (bt l 3)

theorem bt_lt (l : List UInt8) (i : Nat) : bt l i < 256 := UInt8.toNat_lt _

theorem bt_drop (l : List UInt8) (i k : Nat) : bt (l.drop i) k = bt l (i + k) := by
  simp [bt, List.getD_eq_getElem?_getD, List.getElem?_drop]

theorem bt_take (l : List UInt8) (n k : Nat) (h : k < n) : bt (l.take n) k = bt l k := by
  simp [bt, List.getD_eq_getElem?_getD, h]

theorem bt_append (l t : List UInt8) (k : Nat) (h : k < l.length) : bt (l ++ t) k = bt l k := by
  simp [bt, List.getD_eq_getElem?_getD, List.getElem?_append_left h]

theorem bt_zero_of_le (l : List UInt8) (k : Nat) (h : l.length ≤ k) : bt l k = 0 := by
  simp [bt, List.getD_eq_getElem?_getD, List.getElem?_eq_none h]

theorem decode_eq (s : ByteArray) (i : Nat) : Utf8.decode s i = dec (s.data.toList.drop i) := by
  rw [Lib.decode_at, dec, bt_drop, bt_drop, bt_drop, bt_drop]
  simp only [bt, Lib.getD_get!', List.length_drop, Nat.add_zero]
  rfl

/-- Of the width and the number, by the cases of the definition. -/
theorem dec_facts (l : List UInt8) (h : l ≠ []) : 1 ≤ (dec l).2 ∧ (dec l).2 ≤ 4 ∧ (dec l).2 ≤ l.length ∧ (dec l).1 ≤ 1114111 ∧ ((dec l).1 < 55296 ∨ 57344 ≤ (dec l).1) := by
  have hl : 0 < l.length := List.length_pos_iff.2 h
  have h0 := bt_lt l 0; have h1 := bt_lt l 1; have h2 := bt_lt l 2; have h3 := bt_lt l 3
  unfold dec Lib.decodeN
  generalize bt l 0 = b0 at *; generalize bt l 1 = b1 at *; generalize bt l 2 = b2 at *; generalize bt l 3 = b3 at *
  repeat' split
  all_goals (refine ⟨?_, ?_, ?_, ?_, ?_⟩ <;> dsimp only <;> omega)

theorem dec_pos (l : List UInt8) (h : l ≠ []) : 1 ≤ (dec l).2 := (dec_facts l h).1
theorem dec_le (l : List UInt8) (h : l ≠ []) : (dec l).2 ≤ l.length := (dec_facts l h).2.2.1

/-- A byte below 128 stands for itself. -/
theorem dec_low (l : List UInt8) (h : bt l 0 < 128) : dec l = (bt l 0, 1) := by
  simp [dec, Lib.decodeN, h]

theorem dec_high (l : List UInt8) (h : 128 ≤ bt l 0) : 128 ≤ (dec l).1 := by
  have h0 := bt_lt l 0
  unfold dec Lib.decodeN
  generalize bt l 0 = b0 at *; generalize bt l 1 = b1 at *; generalize bt l 2 = b2 at *; generalize bt l 3 = b3 at *
  repeat' split
  all_goals (dsimp only; omega)

def Q2 (n b0 b1 : Nat) : Prop := b0 / 32 = 6 ∧ 1 < n ∧ b1 / 64 = 2 ∧ 128 ≤ b0 % 32 * 64 + b1 % 64
def Q3 (n b0 b1 b2 : Nat) : Prop := b0 / 16 = 14 ∧ 2 < n ∧ b1 / 64 = 2 ∧ b2 / 64 = 2 ∧ 2048 ≤ b0 % 16 * 4096 + b1 % 64 * 64 + b2 % 64 ∧ (b0 % 16 * 4096 + b1 % 64 * 64 + b2 % 64 < 55296 ∨ 57344 ≤ b0 % 16 * 4096 + b1 % 64 * 64 + b2 % 64)
def Q4 (n b0 b1 b2 b3 : Nat) : Prop := b0 / 8 = 30 ∧ 3 < n ∧ b1 / 64 = 2 ∧ b2 / 64 = 2 ∧ b3 / 64 = 2 ∧ 65536 ≤ b0 % 8 * 262144 + b1 % 64 * 4096 + b2 % 64 * 64 + b3 % 64 ∧ b0 % 8 * 262144 + b1 % 64 * 4096 + b2 % 64 * 64 + b3 % 64 ≤ 1114111

theorem decN2 {n b0 b1 b2 b3 : Nat} (h : Q2 n b0 b1) : Lib.decodeN n b0 b1 b2 b3 = (b0 % 32 * 64 + b1 % 64, 2) := by
  unfold Q2 at h; unfold Lib.decodeN
  repeat' split
  all_goals first | (exfalso; omega) | rfl

theorem decN3 {n b0 b1 b2 b3 : Nat} (h : Q3 n b0 b1 b2) : Lib.decodeN n b0 b1 b2 b3 = (b0 % 16 * 4096 + b1 % 64 * 64 + b2 % 64, 3) := by
  unfold Q3 at h; unfold Lib.decodeN
  repeat' split
  all_goals first | (exfalso; omega) | rfl

theorem decN4 {n b0 b1 b2 b3 : Nat} (h : Q4 n b0 b1 b2 b3) : Lib.decodeN n b0 b1 b2 b3 = (b0 % 8 * 262144 + b1 % 64 * 4096 + b2 % 64 * 64 + b3 % 64, 4) := by
  unfold Q4 at h; unfold Lib.decodeN
  repeat' split
  all_goals first | (exfalso; omega) | rfl

theorem decN0 {n b0 b1 b2 b3 : Nat} (h0 : 128 ≤ b0) (h2 : ¬ Q2 n b0 b1) (h3 : ¬ Q3 n b0 b1 b2) (h4 : ¬ Q4 n b0 b1 b2 b3) : Lib.decodeN n b0 b1 b2 b3 = (65533, 1) := by
  unfold Q2 at h2; unfold Q3 at h3; unfold Q4 at h4; unfold Lib.decodeN
  repeat' split
  all_goals first | (exfalso; omega) | rfl

/-- The five cases. -/
theorem dec_cases (l : List UInt8) :
    (bt l 0 < 128 ∧ dec l = (bt l 0, 1)) ∨
    (Q2 l.length (bt l 0) (bt l 1) ∧ dec l = (bt l 0 % 32 * 64 + bt l 1 % 64, 2)) ∨
    (Q3 l.length (bt l 0) (bt l 1) (bt l 2) ∧ dec l = (bt l 0 % 16 * 4096 + bt l 1 % 64 * 64 + bt l 2 % 64, 3)) ∨
    (Q4 l.length (bt l 0) (bt l 1) (bt l 2) (bt l 3) ∧ dec l = (bt l 0 % 8 * 262144 + bt l 1 % 64 * 4096 + bt l 2 % 64 * 64 + bt l 3 % 64, 4)) ∨
    (128 ≤ bt l 0 ∧ ¬ Q2 l.length (bt l 0) (bt l 1) ∧ ¬ Q3 l.length (bt l 0) (bt l 1) (bt l 2) ∧ ¬ Q4 l.length (bt l 0) (bt l 1) (bt l 2) (bt l 3) ∧ dec l = (65533, 1)) := by
  by_cases h0 : bt l 0 < 128
  · exact .inl ⟨h0, dec_low l h0⟩
  · by_cases h2 : Q2 l.length (bt l 0) (bt l 1)
    · exact .inr (.inl ⟨h2, decN2 h2⟩)
    · by_cases h3 : Q3 l.length (bt l 0) (bt l 1) (bt l 2)
      · exact .inr (.inr (.inl ⟨h3, decN3 h3⟩))
      · by_cases h4 : Q4 l.length (bt l 0) (bt l 1) (bt l 2) (bt l 3)
        · exact .inr (.inr (.inr (.inl ⟨h4, decN4 h4⟩)))
        · exact .inr (.inr (.inr (.inr ⟨by omega, h2, h3, h4, decN0 (by omega) h2 h3 h4⟩)))

/-- Of two lists that are alike as far as the width reaches. -/
theorem dec_like (l t : List UInt8) (hne : l ≠ []) (htl : t.length ≤ l.length) (hk : (dec l).2 ≤ t.length) (hb : ∀ i, i < t.length → bt t i = bt l i) : dec t = dec l := by
  have hp := dec_pos l hne
  rcases dec_cases l with ⟨h, e⟩ | ⟨h, e⟩ | ⟨h, e⟩ | ⟨h, e⟩ | ⟨h0, h2, h3, h4, e⟩
  · rw [e] at hk ⊢; dsimp only at hk
    rw [← hb 0 (by omega)] at h ⊢; exact dec_low t h
  · rw [e] at hk ⊢; dsimp only at hk
    have c0 := hb 0 (by omega); have c1 := hb 1 (by omega)
    rw [← c0, ← c1] at h ⊢
    exact decN2 ⟨h.1, by omega, h.2.2.1, h.2.2.2⟩
  · rw [e] at hk ⊢; dsimp only at hk
    have c0 := hb 0 (by omega); have c1 := hb 1 (by omega); have c2 := hb 2 (by omega)
    rw [← c0, ← c1, ← c2] at h ⊢
    exact decN3 ⟨h.1, by omega, h.2.2.1, h.2.2.2.1, h.2.2.2.2⟩
  · rw [e] at hk ⊢; dsimp only at hk
    have c0 := hb 0 (by omega); have c1 := hb 1 (by omega); have c2 := hb 2 (by omega); have c3 := hb 3 (by omega)
    rw [← c0, ← c1, ← c2, ← c3] at h ⊢
    exact decN4 ⟨h.1, by omega, h.2.2.1, h.2.2.2.1, h.2.2.2.2.1, h.2.2.2.2.2⟩
  · rw [e] at hk ⊢; dsimp only at hk
    have c0 := hb 0 (by omega)
    refine decN0 (by omega) (fun q => h2 ?_) (fun q => h3 ?_) (fun q => h4 ?_)
    · have c1 := hb 1 (by have := q.2.1; omega)
      rw [c0, c1] at q; exact ⟨q.1, by have := q.2.1; omega, q.2.2.1, q.2.2.2⟩
    · have c1 := hb 1 (by have := q.2.1; omega); have c2 := hb 2 (by have := q.2.1; omega)
      rw [c0, c1, c2] at q; exact ⟨q.1, by have := q.2.1; omega, q.2.2.1, q.2.2.2.1, q.2.2.2.2⟩
    · have c1 := hb 1 (by have := q.2.1; omega); have c2 := hb 2 (by have := q.2.1; omega); have c3 := hb 3 (by have := q.2.1; omega)
      rw [c0, c1, c2, c3] at q; exact ⟨q.1, by have := q.2.1; omega, q.2.2.1, q.2.2.2.1, q.2.2.2.2.1, q.2.2.2.2.2⟩

theorem dec_take (l : List UInt8) (k : Nat) (h : l ≠ []) (hk : (dec l).2 ≤ k) : dec (l.take k) = dec l := by
  have hl := dec_le l h
  refine dec_like l (l.take k) h (by simp; omega) (by simp; omega) ?_
  intro i hi
  exact bt_take l k i (by simp at hi; omega)

/-- A rune stays what it is, whatever stands behind it. -/
theorem dec_append (l t : List UInt8) (h : l ≠ []) (hw : dec l ≠ (65533, 1)) : dec (l ++ t) = dec l := by
  have hl : 0 < l.length := List.length_pos_iff.2 h
  have c0 : bt (l ++ t) 0 = bt l 0 := bt_append l t 0 hl
  rcases dec_cases l with ⟨h, e⟩ | ⟨h, e⟩ | ⟨h, e⟩ | ⟨h, e⟩ | ⟨h0, h2, h3, h4, e⟩
  · rw [e, ← c0]; exact dec_low _ (by omega)
  · have c1 : bt (l ++ t) 1 = bt l 1 := bt_append l t 1 h.2.1
    rw [e, ← c0, ← c1]; rw [← c0, ← c1] at h
    exact decN2 ⟨h.1, by have := h.2.1; simp; omega, h.2.2.1, h.2.2.2⟩
  · have h' := h.2.1
    have c1 : bt (l ++ t) 1 = bt l 1 := bt_append l t 1 (by omega)
    have c2 : bt (l ++ t) 2 = bt l 2 := bt_append l t 2 (by omega)
    rw [e, ← c0, ← c1, ← c2]; rw [← c0, ← c1, ← c2] at h
    exact decN3 ⟨h.1, by simp; omega, h.2.2.1, h.2.2.2.1, h.2.2.2.2⟩
  · have h' := h.2.1
    have c1 : bt (l ++ t) 1 = bt l 1 := bt_append l t 1 (by omega)
    have c2 : bt (l ++ t) 2 = bt l 2 := bt_append l t 2 (by omega)
    have c3 : bt (l ++ t) 3 = bt l 3 := bt_append l t 3 (by omega)
    rw [e, ← c0, ← c1, ← c2, ← c3]; rw [← c0, ← c1, ← c2, ← c3] at h
    exact decN4 ⟨h.1, by simp; omega, h.2.2.1, h.2.2.2.1, h.2.2.2.2.1, h.2.2.2.2.2⟩
  · exact absurd e hw

/-! ### The cutting -/

def cutF : Nat → List UInt8 → List (List UInt8)
  | 0, _ => []
  | f + 1, l => if l = [] then [] else l.take (dec l).2 :: cutF f (l.drop (dec l).2)
def cut (l : List UInt8) : List (List UInt8) := cutF l.length l

theorem cutF_fuel : ∀ (f g : Nat) (l : List UInt8), l.length ≤ f → l.length ≤ g → cutF f l = cutF g l
  | 0, 0, _, _, _ => rfl
  | 0, g + 1, l, h, _ => by
    have : l = [] := List.length_eq_zero_iff.1 (by omega)
    simp [cutF, this]
  | f + 1, 0, l, _, h => by
    have : l = [] := List.length_eq_zero_iff.1 (by omega)
    simp [cutF, this]
  | f + 1, g + 1, l, hf, hg => by
    unfold cutF
    split
    · rfl
    · rename_i hl
      have hp := dec_pos l hl
      have : 0 < l.length := List.length_pos_iff.2 hl
      rw [cutF_fuel f g (l.drop (dec l).2) (by simp; omega) (by simp; omega)]

theorem cut_nil : cut [] = [] := rfl

theorem cut_cons (l : List UInt8) (h : l ≠ []) : cut l = l.take (dec l).2 :: cut (l.drop (dec l).2) := by
  have hp := dec_pos l h
  have hl : 0 < l.length := List.length_pos_iff.2 h
  obtain ⟨n, hn⟩ : ∃ n, l.length = n + 1 := ⟨l.length - 1, by omega⟩
  unfold cut
  rw [hn]
  conv => lhs; unfold cutF
  rw [if_neg h]
  congr 1
  exact cutF_fuel _ _ _ (by simp; omega) (Nat.le_refl _)

/-- Induction along the cutting. -/
theorem cut_ind {P : List UInt8 → Prop} (h0 : P []) (h1 : ∀ l, l ≠ [] → P (l.drop (dec l).2) → P l) : ∀ l, P l := by
  have key : ∀ n l, l.length ≤ n → P l := by
    intro n
    induction n with
    | zero => intro l h; rw [List.length_eq_zero_iff.1 (Nat.le_zero.1 h)]; exact h0
    | succ n ih =>
      intro l h
      by_cases hl : l = []
      · rw [hl]; exact h0
      · exact h1 l hl (ih _ (by have := dec_pos l hl; simp; omega))
  exact fun l => key l.length l (Nat.le_refl _)

theorem cut_flatten : ∀ l, (cut l).flatten = l := by
  apply cut_ind
  · rfl
  · intro l h ih
    rw [cut_cons l h, List.flatten_cons, ih, List.take_append_drop]

theorem cut_ne (l : List UInt8) (h : l ≠ []) : cut l ≠ [] := by rw [cut_cons l h]; simp

theorem cut_len_le : ∀ l, (cut l).length ≤ l.length := by
  apply cut_ind
  · simp [cut_nil]
  · intro l h ih
    have := dec_pos l h; have := dec_le l h
    rw [cut_cons l h]; simp at ih ⊢; omega

/-- The first chunks, cut again, are they. -/
theorem cut_take : ∀ (l : List UInt8) (n : Nat), cut ((cut l).take n).flatten = (cut l).take n := by
  apply cut_ind
  · intro n; simp [cut_nil]
  · intro l h ih n
    cases n with
    | zero => simp [cut_nil]
    | succ n =>
      have hp := dec_pos l h; have hl := dec_le l h
      rw [cut_cons l h, List.take_succ_cons, List.flatten_cons]
      have e : l.take (dec l).2 ++ ((cut (l.drop (dec l).2)).take n).flatten = l.take ((dec l).2 + ((cut (l.drop (dec l).2)).take n).flatten.length) := by
        rw [List.take_add]
        congr 1
        have h2 : ((cut (l.drop (dec l).2)).take n).flatten ++ ((cut (l.drop (dec l).2)).drop n).flatten = l.drop (dec l).2 := by
          rw [← List.flatten_append, List.take_append_drop, cut_flatten]
        have h3 := List.take_left' (l₁ := ((cut (l.drop (dec l).2)).take n).flatten) (l₂ := ((cut (l.drop (dec l).2)).drop n).flatten) rfl
        rw [h2] at h3
        exact h3.symm
      have hd : dec (l.take (dec l).2 ++ ((cut (l.drop (dec l).2)).take n).flatten) = dec l := by
        rw [e]; exact dec_take l _ h (by omega)
      have hlen : (l.take (dec l).2).length = (dec l).2 := by simp; omega
      have hne : l.take (dec l).2 ++ ((cut (l.drop (dec l).2)).take n).flatten ≠ [] := by
        intro hh
        have := congrArg List.length hh
        rw [List.length_append, hlen] at this
        simp only [List.length_nil] at this; omega
      rw [cut_cons _ hne, hd]
      rw [List.take_left' hlen, List.drop_left' hlen, ih n]

/-- What is behind the first chunks is cut into the others. -/
theorem cut_drop : ∀ (l : List UInt8) (n : Nat), cut ((cut l).drop n).flatten = (cut l).drop n := by
  apply cut_ind
  · intro n; simp [cut_nil]
  · intro l h ih n
    cases n with
    | zero => rw [List.drop_zero, cut_flatten]
    | succ n => rw [cut_cons l h, List.drop_succ_cons, ih n]

/-- No byte is wrong. -/
def wr (c : List UInt8) : Bool := decide (dec c = (65533, 1))
def valid (l : List UInt8) : Bool := (cut l).all fun c => !wr c

theorem valid_cons (l : List UInt8) (h : l ≠ []) : valid l = (!wr l && valid (l.drop (dec l).2)) := by
  unfold valid
  rw [cut_cons l h, List.all_cons]
  congr 1
  unfold wr
  rw [dec_take l _ h (Nat.le_refl _)]

theorem cut_append : ∀ (l t : List UInt8), valid l = true → cut (l ++ t) = cut l ++ cut t := by
  intro l t
  revert l
  apply cut_ind
  · intro _; simp [cut_nil]
  · intro l h ih hv
    rw [valid_cons l h, Bool.and_eq_true] at hv
    have hw : dec l ≠ (65533, 1) := by
      have := hv.1
      simpa [wr] using this
    have hl := dec_le l h
    have hne : l ++ t ≠ [] := by simp [h]
    rw [cut_cons _ hne, dec_append l t h hw, cut_cons l h, List.cons_append, List.take_append_of_le_length hl, List.drop_append_of_le_length hl, ih hv.2]

end Go.Rc1
