/-
  What strconv.FormatInt answers at base 16: the digits of a number below 2^32, the highest first. Condition: the table of the library's de Bruijn numbers bears 4 at its place 15.
-/
import Derived.Test.YtghnjdbamenkgaaDoorHex
import Derived.Test.YtghnjdbamenkgaaDoorBuild
namespace Go.Proofs.YtghnjdbamenkgaaDoor
open Go.RowKit

/-- The one cell of the de Bruijn table that is read. -/
def Tab (w : World) : Prop := w.cell? ⟨4, 15, none⟩ = some (.int .u8 4)

theorem tz_key : IntKind.u64.wrap (bits BinOp.and IntKind.u64 (16 : Int) (IntKind.u64.wrap (-(16 : Int))) * 285870213051353865) / 288230376151711744 = 15 := by kernel_rfl

set_option maxHeartbeats 400000 in
theorem tz64_16 (w : World) (hT : Tab w) : Calls Tryd.prog 68 #[.int .u64 16] w fun e w' => e = .returned (.int .i64 4) ∧ w = w' := by
  unfold Tab at hT
  have key := tz_key
  go_enter Tryd.func68, Tryd.ntmps68
  go_wp2_with (simp only [key])
  go_ret
  exact ⟨rfl, rfl⟩

set_option maxHeartbeats 400000 in
theorem tz_16 (w : World) (hT : Tab w) : Calls Tryd.prog 59 #[.int .u64 16] w fun e w' => e = .returned (.int .i64 4) ∧ w = w' := by
  go_enter Tryd.func59, Tryd.ntmps59
  go_wp2_with (go_at_call 68; refine (tz64_16 _ hT).mono ?_; rintro e w' ⟨rfl, rfl⟩)
  go_ret
  exact ⟨rfl, rfl⟩

set_option maxHeartbeats 400000 in
theorem pow2_16 (w : World) : Calls Tryd.prog 58 #[.int .i64 16] w fun e w' => e = .returned (.bool true) ∧ w = w' := by
  go_enter Tryd.func58, Tryd.ntmps58
  go_wp2
  go_ret
  exact ⟨rfl, rfl⟩
theorem Tab.lt {w : World} (h : Tab w) : 4 < w.heap.size := by
  rcases Nat.lt_or_ge 4 w.heap.size with h' | h'
  · exact h'
  · unfold Tab World.cell? at h
    simp [Array.getElem?_eq_none h'] at h

theorem Tab.below {w w' : World} {B : Nat} (h : Tab w) (hb : Below B w w') (hB : 4 < B) : Tab w' := by
  unfold Tab at *
  rw [hb.cell (p := ⟨4, 15, none⟩) hB, h]

theorem Tab.alloc {w : World} (h : Tab w) (o : Obj) : Tab (w.alloc o) := h.below ((Below.refl w.heap.size w).alloc (Nat.le_refl _) o) h.lt

/-- What lies in memory while the digits are laid: the array's cells, and the digits from k on. -/
def Laid (w wr : World) (k : Nat) (acc : List UInt8) : Prop :=
  Below w.heap.size w wr ∧ (∀ j, j < 65 → ∃ v, wr.cell? ⟨w.heap.size, j, none⟩ = some v) ∧ (∀ j, wr.frozen? ⟨w.heap.size, j, none⟩ = false) ∧ ∀ j (h : j < acc.length), wr.cell? ⟨w.heap.size, k + j, none⟩ = some (.int .u8 (acc[j].toNat : Int))

theorem ix (j : Nat) (h : j < 16) (W : World) : (Instr.index 9 (.string ⟨#[48, 49, 50, 51, 52, 53, 54, 55, 56, 57, 97, 98, 99, 100, 101, 102, 103, 104, 105, 106, 107, 108, 109, 110, 111, 112, 113, 114, 115, 116, 117, 118, 119, 120, 121, 122]⟩) (.int .u64 j)).run Tryd.prog W = .ok (.int .u8 ((Rc1.dg j).toNat : Int)) W := by
  obtain rfl | rfl | rfl | rfl | rfl | rfl | rfl | rfl | rfl | rfl | rfl | rfl | rfl | rfl | rfl | rfl : j = 0 ∨ j = 1 ∨ j = 2 ∨ j = 3 ∨ j = 4 ∨ j = 5 ∨ j = 6 ∨ j = 7 ∨ j = 8 ∨ j = 9 ∨ j = 10 ∨ j = 11 ∨ j = 12 ∨ j = 13 ∨ j = 14 ∨ j = 15 := by omega
  all_goals kernel_rfl

theorem ixd (j : Nat) (h : j < 16) : (⟨#[48, 49, 50, 51, 52, 53, 54, 55, 56, 57, 97, 98, 99, 100, 101, 102, 103, 104, 105, 106, 107, 108, 109, 110, 111, 112, 113, 114, 115, 116, 117, 118, 119, 120, 121, 122]⟩ : ByteArray)[j]'(Nat.lt_trans h (by decide)) = Rc1.dg j := by
  obtain rfl | rfl | rfl | rfl | rfl | rfl | rfl | rfl | rfl | rfl | rfl | rfl | rfl | rfl | rfl | rfl : j = 0 ∨ j = 1 ∨ j = 2 ∨ j = 3 ∨ j = 4 ∨ j = 5 ∨ j = 6 ∨ j = 7 ∨ j = 8 ∨ j = 9 ∨ j = 10 ∨ j = 11 ∨ j = 12 ∨ j = 13 ∨ j = 14 ∨ j = 15 := by omega
  all_goals rfl

theorem and15 (m : Nat) (h : m < 16 ^ 8) : bits BinOp.and IntKind.u64 (m : Int) 15 = ((m % 16 : Nat) : Int) := by
  have := bits_and_u64_nat m 15 (by omega) (by omega)
  rw [show m &&& 15 = m % 16 from Nat.and_two_pow_sub_one_eq_mod m 4] at this
  exact this

theorem Laid.store {w wr : World} {k : Nat} {acc : List UInt8} (h : Laid w wr (k + 1) acc) (hk : k < 65) (d : UInt8) : Laid w (wr.setCell ⟨w.heap.size, k, none⟩ (.int .u8 (d.toNat : Int))) k (d :: acc) := by
  obtain ⟨hb, hv, hf, hc⟩ := h
  obtain ⟨v, hv0⟩ := hv k hk
  have hset : ∀ j, j ≠ k → (wr.setCell ⟨w.heap.size, k, none⟩ (.int .u8 (d.toNat : Int))).cell? ⟨w.heap.size, j, none⟩ = wr.cell? ⟨w.heap.size, j, none⟩ := fun j hj => World.cell?_setCell_other _ _ _ _ (by first | (simp; done) | (simp; omega))
  have hsame : (wr.setCell ⟨w.heap.size, k, none⟩ (.int .u8 (d.toNat : Int))).cell? ⟨w.heap.size, k, none⟩ = some (.int .u8 (d.toNat : Int)) := World.cell?_setCell_same _ _ _ hv0
  refine ⟨hb.setCell (p := ⟨w.heap.size, k, none⟩) (Nat.le_refl _) _, fun j hj => ?_, fun j => ?_, fun j hj => ?_⟩
  · by_cases e : j = k
    · rw [e]; exact ⟨_, hsame⟩
    · rw [hset j e]; exact hv j hj
  · rw [World.frozen?_setCell]; exact hf j
  · cases j with
    | zero => exact hsame
    | succ j =>
      rw [hset _ (by omega), show k + (j + 1) = k + 1 + j by omega]
      exact hc j (by simpa using hj)

theorem slice65 (b k : Nat) (hk : k < 65) (W : World) : (Instr.sliceAt 75 (.pointer (some ⟨b, 0, none⟩)) (some (.int .i64 (k : Int))) none none).run Tryd.prog W = .ok (.slice (some ⟨b, k, none⟩) (65 - k) (65 - k)) W := by
  have hal : Tryd.prog.arrayLen 75 = 65 := by simp [Program.arrayLen, Tryd.underlying75]
  rw [run_sliceAt_array_l W 75 ⟨b, 0, none⟩ (by simp [Program.arrayLen, Program.elem, Tryd.underlying75]) .i64 (k : Int) (by omega) (by rw [hal]; omega)]
  rw [hal]
  go_simp
  omega

theorem conv65 {w wr : World} {k : Nat} {acc : List UInt8} (h : Laid w wr k acc) (hl : k + acc.length = 65) : (convert 36 9 (.slice (some ⟨w.heap.size, k, none⟩) (65 - k) (65 - k))).run Tryd.prog wr = .ok (.string ⟨acc.toArray⟩) wr := by
  have e : 65 - k = acc.length := by omega
  rw [e]
  exact run_convert_bytes_back wr 36 9 5 ⟨w.heap.size, k, none⟩ acc.length acc Tryd.underlying36 Tryd.underlying5 Tryd.underlying9 (fun j hj => by
    have := h.2.2.2 j hj
    by_cases e0 : j = 0
    · subst e0; simpa [Addr.add] using this
    · simpa [Addr.add, e0] using this)

set_option maxHeartbeats 1000000 in
set_option maxRecDepth 100000 in
theorem formatBits16 (n : Nat) (hn : n < 16 ^ 8) (w : World) (hT : Tab w) :
    Calls Tryd.prog 50 #[.slice none 0 0, .int .u64 n, .int .i64 16, .bool false, .bool false] w fun e w' => e = .returned (.tuple #[.slice none 0 0, .string ⟨(Rc1.hexL n).toArray⟩]) ∧ Below w.heap.size w w' := by
  have HN := Lib.hid hn
  clear hn
  go_enter Tryd.func50, Tryd.ntmps50
  go_wp2_with (first | (go_at_call 58; refine (pow2_16 _).mono ?_; rintro e w' ⟨rfl, rfl⟩) | (go_at_call 59; refine (tz_16 _ (hT.alloc _)).mono ?_; rintro e w' ⟨rfl, rfl⟩))
  go_loopw [1, 13] (fun u i wr => ∃ (m k : Nat) (acc : List UInt8), u = .int .u64 m ∧ i = .int .i64 k ∧ Hid (k + acc.length = 65 ∧ Rc1.hexL m ++ acc = Rc1.hexL n ∧ m < 16 ^ (k - 57)) ∧ Laid w wr k acc) (fun u _ _ => (intOf u).toNat)
  case atStart =>
    refine ⟨n, 65, [], rfl, rfl, ⟨rfl, by simp, HN.out⟩, (Below.refl _ w).alloc (Nat.le_refl _) _, ?_, ?_, ?_⟩
    · intro j hj
      rw [World.cell?_alloc_new]
      exact ⟨_, Array.getElem?_eq_getElem (by simp [Tryd.zeroCells75]; omega)⟩
    · intro j; exact World.frozen?_alloc_new _ _ _ _
    · intro j hj; simp at hj
  case round =>
    obtain ⟨m, k, acc, rfl, rfl, hI, hL⟩ := hrel
    have hk1 : 58 ≤ k ∧ k ≤ 65 := by
      obtain ⟨h1, h2, h3⟩ := hI.out
      refine ⟨?_, by omega⟩
      rcases Nat.lt_or_ge 57 k with h | h
      · exact h
      · rw [show k - 57 = 0 by omega] at h3
        exfalso
        have e0 : m = 0 := by simpa using h3
        have := congrArg List.length h2
        have h8 := Rc1.hexL_len 7 n HN.out
        rw [List.length_append, e0, Rc1.hexL_low 0 (by omega)] at this
        simp at this; omega
    have hm8 : m < 16 ^ 8 := Nat.lt_of_lt_of_le hI.out.2.2 (Nat.pow_le_pow_right (by omega) (by omega))
    have ha := and15 m hm8
    obtain ⟨k, rfl⟩ : ∃ k', k = k' + 1 := ⟨k - 1, by omega⟩
    obtain ⟨v, hc⟩ := hL.2.1 k (by omega)
    have hf := hL.2.2.1 k
    by_cases h16 : 16 ≤ m
    · have hx := ix (m % 16) (by omega)
      have HM := Lib.hid hm8
      clear hm8
      go_wp2
      go_roundw
      case rel =>
        refine ⟨m / 16, k, _ :: acc, by go_num, rfl, ⟨?_, ?_, ?_⟩, hL.store (by omega) _⟩
        · have := hI.out.1; simp; omega
        · rw [← hI.out.2.1, Rc1.hexL_high m h16, ixd (m % 16) (by omega)]; simp
        · have := hI.out.2.2
          rw [show k + 1 - 57 = (k - 57) + 1 by omega, Nat.pow_succ] at this
          exact Nat.div_lt_of_lt_mul (by omega)
      case measure => simp [intOf]; omega
    · have hx := ix m (by omega)
      have hsl := slice65 w.heap.size k (by omega)
      have hcv := conv65 (hL.store (by omega) (Rc1.dg m)) (by have := hI.out.1; simp; omega)
      have HB := Lib.hid (hL.store (by omega) (Rc1.dg m)).1
      clear hm8 ha
      go_wp2
      go_ret2
      refine ⟨?_, HB.out⟩
      rw [← hI.out.2.1, Rc1.hexL_low m (by omega)]
      rfl

theorem iFormatInt16 (n : Nat) (hn : n < 16 ^ 8) (w : World) (hT : Tab w) :
    Calls Tryd.prog 41 #[.int .i64 n, .int .i64 16] w fun e w' => e = .returned (.string ⟨(Rc1.hexL n).toArray⟩) ∧ Below w.heap.size w w' := by
  have HN := Lib.hid hn
  have h1 : n < 4294967296 := hn
  clear hn
  go_enter Tryd.func41, Tryd.ntmps41
  go_wp2_with (go_at_call 50; refine (formatBits16 n HN.out _ hT).mono ?_; rintro e w' ⟨rfl, hb⟩)
  go_ret
  exact ⟨rfl, hb⟩

theorem FormatInt16 (n : Nat) (hn : n < 16 ^ 8) (w : World) (hT : Tab w) :
    Calls Tryd.prog 31 #[.int .i64 n, .int .i64 16] w fun e w' => e = .returned (.string ⟨(Rc1.hexL n).toArray⟩) ∧ Below w.heap.size w w' := by
  go_enter Tryd.func31, Tryd.ntmps31
  go_wp2_with (go_at_call 41; refine (iFormatInt16 n hn _ hT).mono ?_; rintro e w' ⟨rfl, hb⟩)
  go_ret
  exact ⟨rfl, hb⟩

end Go.Proofs.YtghnjdbamenkgaaDoor
