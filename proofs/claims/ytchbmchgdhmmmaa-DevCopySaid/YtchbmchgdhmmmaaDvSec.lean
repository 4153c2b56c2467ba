/-
  The statements' own small functions: which of n things a number speaks of, and the 64 bytes of a number. Conditions: as each theorem states them.
-/
import Derived.Test.YtchbmchgdhmmmaaLawG
import Derived.Lib.Builder
import Derived.Laws.Rows
import Derived.Laws.MakeOwn
import Derived.Laws.BytesString
import Derived.OwnWalk
namespace Go.Rc4

/-- Which of n things. -/
def pk (c : Int) (n : Nat) : Nat := ((if c < 0 then -(c + 1) else c) % (n : Int)).toNat

theorem pk_lt (c : Int) (n : Nat) (h : 0 < n) : pk c n < n := by
  unfold pk
  have h1 := Int.emod_lt_of_pos (if c < 0 then -(c + 1) else c) (show (0 : Int) < n by omega)
  have h0 := Int.emod_nonneg (if c < 0 then -(c + 1) else c) (show (n : Int) ≠ 0 by omega)
  omega

def byteAt (n : Int) (k : Nat) : UInt8 := UInt8.ofNat ((n / 2 ^ (8 * k)) % 256).toNat

theorem byteAt_toNat (n : Int) (k : Nat) : ((byteAt n k).toNat : Int) = (n / 2 ^ (8 * k)) % 256 := by
  unfold byteAt
  rw [UInt8.toNat_ofNat']
  have h1 := Int.emod_lt_of_pos (n / 2 ^ (8 * k)) (show (0 : Int) < 256 by omega)
  have h0 := Int.emod_nonneg (n / 2 ^ (8 * k)) (show (256 : Int) ≠ 0 by omega)
  omega

def secL (n : Int) : Nat → List UInt8
  | 0 => List.replicate 64 0
  | k + 1 => (secL n k).set k (byteAt n k)

theorem secL_length (n : Int) (k : Nat) : (secL n k).length = 64 := by
  induction k with
  | zero => rfl
  | succ k ih => rw [secL, List.length_set, ih]

def sec (n : Int) : ByteArray := ⟨((secL n 8).set 63 (byteAt n 0)).toArray⟩

theorem sec_size (n : Int) : (sec n).size = 64 := by
  show ((secL n 8).set 63 (byteAt n 0)).length = 64
  rw [List.length_set, secL_length]

end Go.Rc4
namespace Go.Proofs.Ytchbmchgdhmmmaa
open Go.RowKit Go.Rc4

theorem back_of {w : World} {b cap : Nat} (l : List UInt8) (h : ∀ j (hj : j < l.length), w.cell? ⟨b, j, none⟩ = some (.int .u8 ((l[j]).toNat : Int))) :
    (convert 51 9 (.slice (some ⟨b, 0, none⟩) l.length cap)).run Try.prog w = .ok (.string ⟨l.toArray⟩) w := by
  refine run_convert_bytes_back (P := Try.prog) w 51 9 5 ⟨b, 0, none⟩ cap l Try.underlying51 Try.underlying5 Try.underlying9 (fun j hj => ?_)
  have := h j hj
  by_cases e0 : j = 0
  · subst e0; simpa [Addr.add] using this
  · simpa [Addr.add, e0] using this

/-- A row of bytes in one block. -/
def BRow (b : Nat) (l : List UInt8) (wr : World) : Prop :=
  (∀ j (hj : j < l.length), wr.cell? ⟨b, j, none⟩ = some (.int .u8 ((l[j]).toNat : Int))) ∧ ∀ j, j < l.length → wr.frozen? ⟨b, j, none⟩ = false

theorem BRow.put {b : Nat} {l : List UInt8} {wr : World} (h : BRow b l wr) (k : Nat) (hk : k < l.length) (v : UInt8) : BRow b (l.set k v) (wr.setCell ⟨b, k, none⟩ (.int .u8 (v.toNat : Int))) := by
  refine ⟨fun j hj => ?_, fun j hj => ?_⟩
  · have hj' : j < l.length := by simpa using hj
    rw [List.getElem_set]
    by_cases e : j = k
    · subst e
      rw [if_pos rfl]
      exact World.cell?_setCell_same _ _ _ (h.1 j hj')
    · rw [if_neg (fun h => e h.symm), World.cell?_setCell_other _ _ _ _ (by first | (simp; done) | (simp; omega))]
      exact h.1 j hj'
  · rw [World.frozen?_setCell]
    exact h.2 j (by simpa using hj)

theorem BRow.back {b : Nat} {l : List UInt8} {wr : World} (h : BRow b l wr) (cap n : Nat) (hn : n = l.length) :
    (convert 51 9 (.slice (some ⟨b, 0, none⟩) n cap)).run Try.prog wr = .ok (.string ⟨l.toArray⟩) wr := by
  rw [hn]
  exact back_of l h.1

theorem make_row {t e : TypeId} {z : Value} {bytes : Nat} (ht : Try.prog.underlying t = some (.slice e)) (hi : (Try.prog.info? e).map (fun i => (i.zero, i.size, i.bytes)) = some (some z, 1, bytes)) (hz : z.cells = #[z])
    (n : Nat) (hb : (bytes : Int) * (n : Int) ≤ 281474976710656) (hn : (n : Int) ≤ 9223372036854775807) (w : World) :
    (Instr.makeSlice t (.int .i64 (n : Int)) (.int .i64 (n : Int))).run Try.prog w = .ok (.slice (some ⟨w.heap.size, 0, none⟩) n n) (w.alloc (.cells (List.replicate n z).toArray e)) := by
  obtain ⟨i, h1, h2, h3, h4⟩ := info_parts hi
  subst h4
  have := run_make (P := Try.prog) w t e i z ht h1 h2 .i64 .i64 (n : Int) (n : Int) (by omega) (by omega) hb hn
  rw [this, h3, hz]
  have e2 : madeCells #[z] n = (List.replicate n z).toArray := by
    apply Array.ext'
    rw [toList_madeCells_one]
  simp [e2]

theorem BRow.made (w : World) (n : Nat) : BRow w.heap.size (List.replicate n 0) (w.alloc (.cells (List.replicate n (.int .u8 0)).toArray 5)) := by
  refine ⟨fun j hj => ?_, fun j hj => ?_⟩
  · rw [World.cell?_alloc_new]
    have hj' : j < n := by simpa using hj
    simp [hj']
  · exact Lib.frozen_of_heap (heap_alloc_new w _) j

theorem ret_int {k : IntKind} {a b : Int} (h : a = b) : Ending.returned (.int k a) = .returned (.int k b) := by rw [h]

set_option maxHeartbeats 1000000 in
theorem pick_any (c : Int) (n : Nat) (hn : 0 < n) (hn2 : n ≤ 1000) (h1 : -9223372036854775808 ≤ c) (h2 : c ≤ 9223372036854775807) (w : World) :
    Calls Try.prog 16 #[.int .i64 c, .int .i64 n] w fun e w' => e = .returned (.int .i64 (pk c n)) ∧ w = w' := by
  have h0 : ¬ ((n : Int) = 0) := by omega
  have h0' : ((n : Int) == 0) = false := by simpa using h0
  by_cases hc : c < 0
  · have HP : Hid (((pk c n : Nat) : Int) = (-(c + 1)) % n) := by
      unfold pk
      rw [if_pos hc]
      have := Int.emod_nonneg (-(c + 1)) (show (n : Int) ≠ 0 by omega)
      show _ = _
      omega
    have hp : 0 ≤ -(c + 1) := by omega
    go_enter Try.func16, Try.ntmps16
    go_wp2
    go_ret
    rw [HP.out]
    exact ⟨ret_int (by rw [← Int.neg_tmod, Int.tmod_eq_emod_of_nonneg hp]), rfl⟩
  · have HP : Hid (((pk c n : Nat) : Int) = c % n) := by
      unfold pk
      rw [if_neg hc]
      have := Int.emod_nonneg c (show (n : Int) ≠ 0 by omega)
      show _ = _
      omega
    have hp : 0 ≤ c := by omega
    go_enter Try.func16, Try.ntmps16
    go_wp2
    go_ret
    rw [HP.out]
    exact ⟨rfl, rfl⟩

set_option maxHeartbeats 2000000 in
theorem sector_any (n : Int) (w : World) :
    Calls Try.prog 17 #[.int .i64 n] w fun e w' => e = .returned (.string (sec n)) ∧ Below w.heap.size w w' := by
  have hmk : (Instr.makeSlice 51 (.int .i64 64) (.int .i64 64)).run Try.prog w = .ok (.slice (some ⟨w.heap.size, 0, none⟩) 64 64) (w.alloc (.cells (List.replicate 64 (.int .u8 0)).toArray 5)) :=
    make_row (t := 51) (e := 5) (z := .int .u8 0) (bytes := 1) Try.underlying51 (by kernel_rfl) rfl 64 (by omega) (by omega) w
  have HB := Lib.hid (BRow.made w 64)
  generalize (List.replicate 64 (Value.int .u8 0)).toArray = C at hmk HB
  go_enter Try.func17, Try.ntmps17
  go_wp2
  go_loopw [4] (fun i wr => ∃ k : Nat, i = .int .i64 k ∧ k ≤ 8 ∧ BRow w.heap.size (secL n k) wr ∧ Below w.heap.size w wr) (fun i _ => (8 - intOf i).toNat)
  case atStart => exact ⟨0, rfl, Nat.zero_le _, HB.out, (Below.refl _ _).alloc (Nat.le_refl _) _⟩
  case round =>
    obtain ⟨k, rfl, hk, hB, hbw⟩ := hrel
    have HB2 := Lib.hid hB
    by_cases hlt : k < 8
    · have hltI : (k : Int) < 8 := by omega
      have hc := hB.1 k (by rw [secL_length]; omega)
      have hf := hB.2 k (by rw [secL_length]; omega)
      clear hB
      go_wp2
      go_roundw
      case rel =>
        have hp := HB2.out.put k (by rw [secL_length]; omega) (byteAt n k)
        rw [byteAt_toNat] at hp
        exact ⟨k + 1, by go_num, by omega, hp, hbw.setCell (Nat.le_refl _) _⟩
      case measure => simp [intOf]; omega
    · have hltI : ¬ (k : Int) < 8 := by omega
      obtain rfl : k = 8 := by omega
      have hc := hB.1 63 (by rw [secL_length]; omega)
      have hf := hB.2 63 (by rw [secL_length]; omega)
      have hp := hB.put 63 (by rw [secL_length]; omega) (byteAt n 0)
      rw [byteAt_toNat, Nat.mul_zero, Int.pow_zero, Int.ediv_one] at hp
      have hcv := hp.back 64 64 (by rw [List.length_set, secL_length])
      rw [show ByteArray.mk ((secL n 8).set 63 (byteAt n 0)).toArray = sec n from rfl] at hcv
      clear hB hp
      go_wp2
      go_ret
      exact ⟨rfl, hbw.setCell (Nat.le_refl _) _⟩

end Go.Proofs.Ytchbmchgdhmmmaa
