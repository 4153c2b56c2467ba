/-
  What the document's own Put answers: the lowest bytes of a number. Condition: the number is below 2^64.
-/
import Derived.Test.YteellffkjjllgaaGreatQLePut
import Derived.Lib.FrozenHead2
import Derived.Lib.UnsafeStr
import Derived.OwnWalk
namespace Go.Proofs.YteellffkjjllgaaGreat
open Go.RowKit

theorem infoB : (Tryz.prog.info? 5).map (fun i => (i.zero, i.size, i.bytes)) = some (some (.int .u8 0), 1, 1) := by kernel_rfl

theorem cell_one_new (w : World) (t : TypeId) (v : Value) : ∀ j u, [v][j]? = some u → (w.alloc (.cells #[v] t (0, 0))).cell? (Addr.add ⟨w.heap.size, 0, none⟩ j) = some u := by
  intro j u hj
  match j, hj with
  | 0, hj => simp at hj; subst hj; simp [Addr.add]

theorem own_back {w wr : World} {v : Value} {l : List UInt8} (h : wr.ownsRowF w.heap.size 5 1 v l.length (Lib.byteCells l)) : (convert 71 9 v).run Tryz.prog wr = .ok (.string ⟨l.toArray⟩) wr := by
  rcases h.2 with ⟨rfl, h0⟩ | ⟨g, cap, cur, fz, rfl, _, hg, _, _, _, _, htk⟩
  · rw [List.length_eq_zero_iff] at h0
    subst h0
    exact run_convert_bytes_nil wr 71 5 Tryz.underlying71 Tryz.underlying5 0 0 9 Tryz.underlying9
  · refine run_convert_bytes_back wr 71 9 5 ⟨g, 0, none⟩ cap _ Tryz.underlying71 Tryz.underlying5 Tryz.underlying9 (fun j hj => ?_)
    exact h.cells rfl j _ (by simp [Lib.byteCells, List.getElem?_eq_getElem hj])

theorem last_byte (n k : Nat) : Lib.byteCells [UInt8.ofNat (n / 256 ^ k)] = [.int .u8 (((n / 256 ^ k : Nat) : Int) % 256)] := by
  show [Value.int .u8 ((UInt8.ofNat (n / 256 ^ k)).toNat : Int)] = _
  rw [UInt8.toNat_ofNat', Int.natCast_emod]
  rfl

set_option maxHeartbeats 2000000 in
theorem PutR_core (n : Nat) (hn : n < 18446744073709551616) (m : Int) (q : Nat) (hq : (q : Int) = max 0 (min m 8)) (w : World) :
    Calls Tryz.prog 23 #[.int .u64 n, .int .i64 m] w fun e w' => e = .returned (.string ⟨(Rc2.put q n).toArray⟩) ∧ Below w.heap.size w w' := by
  obtain ⟨i0, hi, hz0, hz1, hz2⟩ := info_parts infoB
  have hB := Below.refl w.heap.size w
  have HN := Lib.hid hn
  have HQ := Lib.hid hq
  clear hn hq
  go_enter Tryz.func23, Tryz.ntmps23
  go_wp2
  go_loopw [0, 5, 6] (fun x v i wr => ∃ k y : Nat, k ≤ q ∧ x = .int .u64 y ∧ Hid (y = n / 256 ^ k ∧ y < 18446744073709551616) ∧ i = .int .i64 k ∧ wr.ownsRowF w.heap.size 5 1 v k (Lib.byteCells (Rc2.put k n)) ∧ Below w.heap.size w wr) (fun _ _ i _ => (8 - intOf i).toNat)
  case atStart => exact ⟨0, n, Nat.zero_le _, rfl, ⟨by simp, HN.out⟩, rfl, World.ownsRowF_of (World.ownsRow_nil w _ _ _), hB⟩
  case round =>
    obtain ⟨k, y, hk, rfl, hy, rfl, hown, hbr⟩ := hrel
    have HOWN := Lib.hid hown
    clear hB hown
    by_cases hlt : k < q
    · have h1 : (k : Int) < m := by have := HQ.out; omega
      have h2 : (k : Int) < 8 := by have := HQ.out; omega
      have hbz := hbr.size
      have h3 : (k : Nat) < 8 := by omega
      go_wp2_with (at_builtin; refine wpList_append_ownF _ rfl _ _ 71 rfl w.heap.size 5 i0 (.int .u8 0) 1 1 Tryz.underlying71 hi hz0 hz1 hz2 rfl (by decide) _ _ _ rfl (HOWN.out.alloc _) ⟨wr.heap.size, 0, none⟩ 1 1 [.int .u8 ((y : Int) % 256)] rfl rfl (cell_one_new _ _ _) (fun u hu => by simp at hu; subst hu; rfl) (by unfold maxLen; omega) (by omega) (by simp; omega) ?_; intro v' w2 hown' hgrow _)
      go_roundw
      case rel =>
        obtain ⟨hy1, hy2⟩ := hy.out
        refine ⟨k + 1, y / 256, by omega, ?_, ⟨?_, by omega⟩, by go_num, ?_, ?_⟩
        · rw [IntKind.wrap_u64]; exact congrArg (Value.int IntKind.u64) (by omega)
        · rw [hy1, Nat.div_div_eq_div_mul, Nat.pow_succ]
        · rw [Rc2.put_snoc, Lib.byteCells_append, last_byte, ← hy1]
          exact hown'
        · exact (hbr.alloc (by omega) _).grown hgrow (by simp; omega) (fun g hg => (HOWN.out.lt g hg).1)
      case measure => simp [intOf]; omega
    · obtain rfl : k = q := by omega
      have hbk := own_back (w := w) (wr := wr) (l := Rc2.put k n) (by rw [Rc2.put_length]; exact HOWN.out)
      clear hlt
      by_cases h8 : m ≤ k
      · have h1 : ¬ (k : Int) < m := by omega
        go_wp2
        go_ret
        exact ⟨rfl, hbr⟩
      · have h1 : (k : Int) < m := by omega
        have h2 : ¬ (k : Int) < 8 := by have := HQ.out; omega
        go_wp2
        go_ret
        exact ⟨rfl, hbr⟩

theorem PutR_any (n : Nat) (hn : n < 18446744073709551616) (m : Int) (w : World) :
    Calls Tryz.prog 23 #[.int .u64 n, .int .i64 m] w fun e w' => e = .returned (.string ⟨(Rc2.put (max 0 (min m 8)).toNat n).toArray⟩) ∧ Below w.heap.size w w' :=
  PutR_core n hn m _ (by omega) w

end Go.Proofs.YteellffkjjllgaaGreat
