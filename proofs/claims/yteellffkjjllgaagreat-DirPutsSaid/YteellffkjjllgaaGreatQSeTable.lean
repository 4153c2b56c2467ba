/-
  What seal.shifts answers: the table of sixteen registers, each behind four steps. Conditions: none.
-/
import Derived.Test.YteellffkjjllgaaGreatG7
namespace Go.Proofs.YteellffkjjllgaaGreat
open Go.RowKit

theorem below_at {B : Nat} {a w : World} (h : Below B a w) (j : Nat) (u : Value) : Below B a (w.setCell ⟨B, j, none⟩ u) := h.setCell (p := ⟨B, j, none⟩) (Nat.le_refl _) u

def tabV : Value := .agg ((List.range 16).map fun j => Value.int .u32 ((Rc3.it 4 j : Nat) : Int)).toArray

def TabAt (b k : Nat) (wr : World) : Prop :=
  (∀ j, j < 16 → ∃ v, wr.cell? ⟨b, j, none⟩ = some v) ∧ (∀ j, wr.frozen? ⟨b, j, none⟩ = false) ∧ ∀ j, j < k → wr.cell? ⟨b, j, none⟩ = some (.int .u32 ((Rc3.it 4 j : Nat) : Int))

theorem TabAt.other {b c k j : Nat} {wr : World} (h : TabAt b k wr) (hne : b ≠ c) (u : Value) : TabAt b k (wr.setCell ⟨c, j, none⟩ u) := by
  have hset : ∀ i, (wr.setCell ⟨c, j, none⟩ u).cell? ⟨b, i, none⟩ = wr.cell? ⟨b, i, none⟩ := fun i => World.cell?_setCell_other _ _ _ _ (by simp)
  refine ⟨fun i hi => ?_, fun i => ?_, fun i hi => ?_⟩
  · rw [hset]; exact h.1 i hi
  · rw [World.frozen?_setCell]; exact h.2.1 i
  · rw [hset]; exact h.2.2 i hi

theorem TabAt.store {b k : Nat} {wr : World} (h : TabAt b k wr) (hk : k < 16) : TabAt b (k + 1) (wr.setCell ⟨b, k, none⟩ (.int .u32 ((Rc3.it 4 k : Nat) : Int))) := by
  obtain ⟨hv, hf, hc⟩ := h
  obtain ⟨v, hv0⟩ := hv k hk
  have hset : ∀ j, j ≠ k → ∀ u, (wr.setCell ⟨b, k, none⟩ u).cell? ⟨b, j, none⟩ = wr.cell? ⟨b, j, none⟩ := fun j hj u => World.cell?_setCell_other _ _ _ _ (by first | (simp; done) | (simp; omega))
  have hsame : ∀ u, (wr.setCell ⟨b, k, none⟩ u).cell? ⟨b, k, none⟩ = some u := fun u => World.cell?_setCell_same _ _ _ hv0
  refine ⟨fun j hj => ?_, fun j => ?_, fun j hj => ?_⟩
  · by_cases e : j = k
    · rw [e]; exact ⟨_, hsame _⟩
    · rw [hset j e]; exact hv j hj
  · rw [World.frozen?_setCell]; exact hf j
  · by_cases e : j = k
    · rw [e]; exact hsame _
    · rw [hset j e]; exact hc j (by omega)

def Tab (w : World) (k : Nat) (wr : World) : Prop :=
  Below w.heap.size w wr ∧ w.heap.size + 2 = wr.heap.size ∧ TabAt w.heap.size 0 wr ∧ TabAt (w.heap.size + 1) k wr

set_option maxHeartbeats 1000000 in
theorem shifts_any (w : World) :
    Calls Tryz.prog 50 #[] w fun e w' => e = .returned tabV ∧ Below w.heap.size w w' := by
  go_enter Tryz.func50, Tryz.ntmps50
  go_wp2
  go_loopw [3] (fun i wr => ∃ k : Nat, i = .int .i64 k ∧ k ≤ 16 ∧ Tab w k wr) (fun i _ => (16 - intOf i).toNat)
  case atStart =>
    refine ⟨0, rfl, by omega, ((Below.refl _ w).alloc (Nat.le_refl _) _).alloc (by simp) _, by simp, ⟨fun j hj => ?_, fun j => ?_, fun j hj => by omega⟩, ⟨fun j hj => ?_, fun j => ?_, fun j hj => by omega⟩⟩
    · rw [World.cell?_alloc_old _ _ _ (by simp), World.cell?_alloc_new]
      exact ⟨_, Array.getElem?_eq_getElem (by simpa using hj)⟩
    · rw [World.frozen?_alloc_old _ _ _ (by simp)]
      exact World.frozen?_alloc_new _ _ _ _
    · have e : w.heap.size + 1 = (w.alloc (.cells #[.int .u32 0, .int .u32 0, .int .u32 0, .int .u32 0, .int .u32 0, .int .u32 0, .int .u32 0, .int .u32 0, .int .u32 0, .int .u32 0, .int .u32 0, .int .u32 0, .int .u32 0, .int .u32 0, .int .u32 0, .int .u32 0] 90 (0, 0))).heap.size := by simp
      rw [e, World.cell?_alloc_new]
      exact ⟨_, Array.getElem?_eq_getElem (by simpa using hj)⟩
    · have e : w.heap.size + 1 = (w.alloc (.cells #[.int .u32 0, .int .u32 0, .int .u32 0, .int .u32 0, .int .u32 0, .int .u32 0, .int .u32 0, .int .u32 0, .int .u32 0, .int .u32 0, .int .u32 0, .int .u32 0, .int .u32 0, .int .u32 0, .int .u32 0, .int .u32 0] 90 (0, 0))).heap.size := by simp
      rw [e]
      exact World.frozen?_alloc_new _ _ _ _
  case round =>
    obtain ⟨k, rfl, hk, hT⟩ := hrel
    by_cases hlt : k < 16
    · obtain ⟨v, hc⟩ := hT.2.2.2.1 k hlt
      have hf := hT.2.2.2.2.1 k
      have HT := Lib.hid hT
      clear hT
      have HS := Lib.hid (shifted_any k (by omega))
      go_wp2_with (go_at_call 74; ((with_reducible refine (HS.out _).mono ?_)); rintro e w1 ⟨rfl, rfl⟩)
      go_roundw
      case rel =>
        obtain ⟨hb, hz, ha, hr⟩ := HT.out
        refine ⟨k + 1, by go_num, by omega, hb.setCell (p := ⟨w.heap.size + 1, k, none⟩) (by simp) _, by simpa using hz, ha.other (by omega) _, hr.store hlt⟩
      case measure => simp [intOf]; omega
    · obtain rfl : k = 16 := by omega
      have c0 := hT.2.2.2.2.2 0 (by decide)
      have c1 := hT.2.2.2.2.2 1 (by decide)
      have c2 := hT.2.2.2.2.2 2 (by decide)
      have c3 := hT.2.2.2.2.2 3 (by decide)
      have c4 := hT.2.2.2.2.2 4 (by decide)
      have c5 := hT.2.2.2.2.2 5 (by decide)
      have c6 := hT.2.2.2.2.2 6 (by decide)
      have c7 := hT.2.2.2.2.2 7 (by decide)
      have c8 := hT.2.2.2.2.2 8 (by decide)
      have c9 := hT.2.2.2.2.2 9 (by decide)
      have c10 := hT.2.2.2.2.2 10 (by decide)
      have c11 := hT.2.2.2.2.2 11 (by decide)
      have c12 := hT.2.2.2.2.2 12 (by decide)
      have c13 := hT.2.2.2.2.2 13 (by decide)
      have c14 := hT.2.2.2.2.2 14 (by decide)
      have c15 := hT.2.2.2.2.2 15 (by decide)
      obtain ⟨v0, d0⟩ := hT.2.2.1.1 0 (by decide)
      have f0 := hT.2.2.1.2.1 0
      obtain ⟨v1, d1⟩ := hT.2.2.1.1 1 (by decide)
      have f1 := hT.2.2.1.2.1 1
      obtain ⟨v2, d2⟩ := hT.2.2.1.1 2 (by decide)
      have f2 := hT.2.2.1.2.1 2
      obtain ⟨v3, d3⟩ := hT.2.2.1.1 3 (by decide)
      have f3 := hT.2.2.1.2.1 3
      obtain ⟨v4, d4⟩ := hT.2.2.1.1 4 (by decide)
      have f4 := hT.2.2.1.2.1 4
      obtain ⟨v5, d5⟩ := hT.2.2.1.1 5 (by decide)
      have f5 := hT.2.2.1.2.1 5
      obtain ⟨v6, d6⟩ := hT.2.2.1.1 6 (by decide)
      have f6 := hT.2.2.1.2.1 6
      obtain ⟨v7, d7⟩ := hT.2.2.1.1 7 (by decide)
      have f7 := hT.2.2.1.2.1 7
      obtain ⟨v8, d8⟩ := hT.2.2.1.1 8 (by decide)
      have f8 := hT.2.2.1.2.1 8
      obtain ⟨v9, d9⟩ := hT.2.2.1.1 9 (by decide)
      have f9 := hT.2.2.1.2.1 9
      obtain ⟨v10, d10⟩ := hT.2.2.1.1 10 (by decide)
      have f10 := hT.2.2.1.2.1 10
      obtain ⟨v11, d11⟩ := hT.2.2.1.1 11 (by decide)
      have f11 := hT.2.2.1.2.1 11
      obtain ⟨v12, d12⟩ := hT.2.2.1.1 12 (by decide)
      have f12 := hT.2.2.1.2.1 12
      obtain ⟨v13, d13⟩ := hT.2.2.1.1 13 (by decide)
      have f13 := hT.2.2.1.2.1 13
      obtain ⟨v14, d14⟩ := hT.2.2.1.1 14 (by decide)
      have f14 := hT.2.2.1.2.1 14
      obtain ⟨v15, d15⟩ := hT.2.2.1.1 15 (by decide)
      have f15 := hT.2.2.1.2.1 15
      have HT := Lib.hid hT
      clear hT
      go_wp2
      refine bodyPost_ret (v := tabV) ?_ rfl ⟨rfl, ?_⟩
      · simp [results, Tryz.results50, go_sem, tabV, d0, d1, d2, d3, d4, d5, d6, d7, d8, d9, d10, d11, d12, d13, d14, d15]
      · have hB := HT.out.1
        iterate 16 (with_reducible refine below_at ?_ _ _)
        exact hB

end Go.Proofs.YteellffkjjllgaaGreat
