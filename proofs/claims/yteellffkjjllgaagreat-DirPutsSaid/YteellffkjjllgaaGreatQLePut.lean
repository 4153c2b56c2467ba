/-
  What le.Put answers: the lowest bytes of a number. Condition: the number is below 2^64.
-/
import Derived.Test.YteellffkjjllgaaGreatG1
import Derived.Test.YteellffkjjllgaaGreatChecked
import Derived.WalkKit
import Derived.WalkSpells
import Derived.Below
import Derived.Lib.Hide
import Derived.Lib.Builder
import Derived.Laws.IdiomStrings
namespace Go.Proofs.YteellffkjjllgaaGreat
open Go.RowKit

def Laid (w : World) (n k : Nat) (wr : World) : Prop :=
  Below w.heap.size w wr ∧ (∀ j, j < 8 → ∃ v, wr.cell? ⟨w.heap.size, j, none⟩ = some v) ∧ (∀ j, wr.frozen? ⟨w.heap.size, j, none⟩ = false) ∧
    ∀ j, j < k → wr.cell? ⟨w.heap.size, j, none⟩ = some (.int .u8 ((UInt8.ofNat (n / 256 ^ j)).toNat : Int))

theorem Laid.store {w wr : World} {n k : Nat} (h : Laid w n k wr) (hk : k < 8) : Laid w n (k + 1) (wr.setCell ⟨w.heap.size, k, none⟩ (.int .u8 ((n : Int) / 2 ^ (8 * k) % 256))) := by
  obtain ⟨hb, hv, hf, hc⟩ := h
  obtain ⟨v, hv0⟩ := hv k hk
  have e : ((n : Int) / 2 ^ (8 * k) % 256) = ((UInt8.ofNat (n / 256 ^ k)).toNat : Int) := by
    have h2 : (2 : Int) ^ (8 * k) = ((256 ^ k : Nat) : Int) := by
      rw [Int.pow_mul]
      norm_cast
    rw [h2, UInt8.toNat_ofNat', Int.natCast_emod, Int.natCast_ediv]
    rfl
  rw [e]
  have hset : ∀ j, j ≠ k → ∀ u, (wr.setCell ⟨w.heap.size, k, none⟩ u).cell? ⟨w.heap.size, j, none⟩ = wr.cell? ⟨w.heap.size, j, none⟩ := fun j hj u => World.cell?_setCell_other _ _ _ _ (by first | (simp; done) | (simp; omega))
  have hsame : ∀ u, (wr.setCell ⟨w.heap.size, k, none⟩ u).cell? ⟨w.heap.size, k, none⟩ = some u := fun u => World.cell?_setCell_same _ _ _ hv0
  refine ⟨hb.setCell (p := ⟨w.heap.size, k, none⟩) (Nat.le_refl _) _, fun j hj => ?_, fun j => ?_, fun j hj => ?_⟩
  · by_cases e : j = k
    · rw [e]; exact ⟨_, hsame _⟩
    · rw [hset j e]; exact hv j hj
  · rw [World.frozen?_setCell]; exact hf j
  · by_cases e : j = k
    · rw [e]; exact hsame _
    · rw [hset j e]; exact hc j (by omega)

theorem slice8 (b : Nat) (q : Nat) (hq : q ≤ 8) (W : World) : (Instr.sliceAt 70 (.pointer (some ⟨b, 0, none⟩)) none (some (.int .i64 (q : Int))) none).run Tryz.prog W = .ok (.slice (some ⟨b, 0, none⟩) q 8) W := by
  have hal : Tryz.prog.arrayLen 70 = 8 := by simp [Program.arrayLen, Tryz.underlying70]
  rw [run_sliceAt_array_h W 70 ⟨b, 0, none⟩ (by simp [Program.arrayLen, Program.elem, Tryz.underlying70]) .i64 (q : Int) (by omega) (by rw [hal]; omega)]
  rw [hal]
  go_simp

theorem conv8 {w wr : World} {n q : Nat} (hq : q ≤ 8) (h : Laid w n 8 wr) : (convert 71 9 (.slice (some ⟨w.heap.size, 0, none⟩) q 8)).run Tryz.prog wr = .ok (.string ⟨(Rc2.put q n).toArray⟩) wr := by
  have hl := Rc2.put_length q n
  have := run_convert_bytes_back (P := Tryz.prog) wr 71 9 5 ⟨w.heap.size, 0, none⟩ 8 (Rc2.put q n) Tryz.underlying71 Tryz.underlying5 Tryz.underlying9 (fun j hj => by
    have h1 := h.2.2.2 j (by omega)
    have h2 := Rc2.put_get q n j (by omega)
    rw [List.getElem?_eq_getElem hj] at h2
    rw [Option.some.inj h2]
    by_cases e0 : j = 0
    · subst e0; simpa [Addr.add] using h1
    · simpa [Addr.add, e0] using h1)
  rw [hl] at this
  exact this

set_option maxHeartbeats 1000000 in
theorem Put_core (n : Nat) (_hn : n < 18446744073709551616) (m : Int) (q : Nat) (hq : q ≤ 8) (hm : (m ≤ 0 ∧ q = 0) ∨ (0 < m ∧ m ≤ 8 ∧ m = (q : Int)) ∨ (8 < m ∧ q = 8)) (w : World) :
    Calls Tryz.prog 18 #[.int .u64 n, .int .i64 m] w fun e w' => e = .returned (.string ⟨(Rc2.put q n).toArray⟩) ∧ Below w.heap.size w w' := by
  have HM := Lib.hid hm
  clear hm
  go_enter Tryz.func18, Tryz.ntmps18
  go_wp2
  go_loopw [7] (fun i w' => ∃ k : Nat, i = .int .i64 k ∧ k ≤ 8 ∧ Laid w n k w') (fun i _ => (8 - intOf i).toNat)
  case atStart =>
    refine ⟨0, rfl, by omega, (Below.refl _ w).alloc (Nat.le_refl _) _, ?_, ?_, ?_⟩
    · intro j hj
      rw [World.cell?_alloc_new]
      exact ⟨_, Array.getElem?_eq_getElem (by simpa using hj)⟩
    · intro j; exact World.frozen?_alloc_new _ _ _ _
    · intro j hj; omega
  case round =>
    obtain ⟨k, rfl, hk, hA⟩ := hrel
    by_cases hlt : k < 8
    · obtain ⟨v, hc⟩ := hA.2.1 k hlt
      have hf := hA.2.2.1 k
      have HA := Lib.hid (hA.store hlt)
      clear hA
      go_wp2
      go_roundw
      case rel => exact ⟨k + 1, by go_num, by omega, HA.out⟩
      case measure => simp [intOf]; omega
    · obtain rfl : k = 8 := by omega
      have hsl := slice8 w.heap.size q hq wr
      have hcv := conv8 hq hA
      have HB := Lib.hid hA.1
      clear hA
      rcases HM.out with ⟨h0, h1⟩ | ⟨h0, h1, h2⟩ | ⟨h0, h1⟩
      · subst h1
        have h0' : ¬ 0 < m := by omega
        have h0'' : m ≤ 8 := by omega
        go_wp2
        go_ret
        exact ⟨rfl, HB.out⟩
      · subst h2
        clear h1
        have h1 : (q : Int) ≤ 8 := by omega
        go_wp2
        go_ret
        exact ⟨rfl, HB.out⟩
      · subst h1
        have h0' : ¬ m ≤ 8 := by omega
        go_wp2
        go_ret
        exact ⟨rfl, HB.out⟩

theorem Put_any (n : Nat) (hn : n < 18446744073709551616) (m : Int) (w : World) :
    Calls Tryz.prog 18 #[.int .u64 n, .int .i64 m] w fun e w' => e = .returned (.string ⟨(Rc2.put (max 0 (min m 8)).toNat n).toArray⟩) ∧ Below w.heap.size w w' :=
  Put_core n hn m _ (by omega) (by omega) w

end Go.Proofs.YteellffkjjllgaaGreat
