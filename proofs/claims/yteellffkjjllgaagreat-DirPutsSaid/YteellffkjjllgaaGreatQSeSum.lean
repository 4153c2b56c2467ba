/-
  What seal.Sum answers: the check sum by bits. Condition: the text has at most as many bytes as a text may have.
-/
import Derived.Test.YteellffkjjllgaaGreatQSeTable
import Derived.Test.YteellffkjjllgaaGreatG1
namespace Go.Proofs.YteellffkjjllgaaGreat
open Go.RowKit

theorem low_high4 (x : Nat) : x = x % 16 ^^^ x / 16 * 2 ^ 4 := by
  apply Nat.eq_of_testBit_eq
  intro i
  rw [Nat.testBit_xor, Nat.testBit_mul_two_pow, show (16 : Nat) = 2 ^ 4 by decide, Nat.testBit_mod_two_pow, Nat.testBit_div_two_pow]
  by_cases h : 4 ≤ i
  · simp [h, show ¬ i < 4 by omega]
  · simp [h, show i < 4 by omega]

theorem it_table4 (x : Nat) : Rc3.it 4 x = x / 16 ^^^ Rc3.it 4 (x % 16) := by
  have h2 := congrArg (Rc3.it 4) (low_high4 x)
  rw [Rc3.it_xor, Rc3.it_shift, Nat.xor_comm] at h2
  exact h2

theorem reg_next (s : ByteArray) (k : Nat) (h : k < s.size) : Rc3.reg 4294967295 (s.data.toList.take (k + 1)) = Rc3.it 8 (Rc3.reg 4294967295 (s.data.toList.take k) ^^^ s[k].toNat) := by
  rw [take_next s k h, Rc3.reg_append]
  rfl

def tabCells : Array Value := #[(.int .u32 ((Rc3.it 4 0 : Nat) : Int)), (.int .u32 ((Rc3.it 4 1 : Nat) : Int)), (.int .u32 ((Rc3.it 4 2 : Nat) : Int)), (.int .u32 ((Rc3.it 4 3 : Nat) : Int)), (.int .u32 ((Rc3.it 4 4 : Nat) : Int)), (.int .u32 ((Rc3.it 4 5 : Nat) : Int)), (.int .u32 ((Rc3.it 4 6 : Nat) : Int)), (.int .u32 ((Rc3.it 4 7 : Nat) : Int)), (.int .u32 ((Rc3.it 4 8 : Nat) : Int)), (.int .u32 ((Rc3.it 4 9 : Nat) : Int)), (.int .u32 ((Rc3.it 4 10 : Nat) : Int)), (.int .u32 ((Rc3.it 4 11 : Nat) : Int)), (.int .u32 ((Rc3.it 4 12 : Nat) : Int)), (.int .u32 ((Rc3.it 4 13 : Nat) : Int)), (.int .u32 ((Rc3.it 4 14 : Nat) : Int)), (.int .u32 ((Rc3.it 4 15 : Nat) : Int))]

theorem TabAt.new (w : World) (t : TypeId) : TabAt w.heap.size 16 (w.alloc (.cells tabCells t (0, 0))) := by
  refine ⟨fun j hj => ?_, fun j => World.frozen?_alloc_new _ _ _ _, fun j hj => ?_⟩
  · rw [World.cell?_alloc_new]
    exact ⟨_, Array.getElem?_eq_getElem (by simpa [tabCells] using hj)⟩
  · rw [World.cell?_alloc_new]
    match j, hj with
    | 0, _ => rfl
    | 1, _ => rfl
    | 2, _ => rfl
    | 3, _ => rfl
    | 4, _ => rfl
    | 5, _ => rfl
    | 6, _ => rfl
    | 7, _ => rfl
    | 8, _ => rfl
    | 9, _ => rfl
    | 10, _ => rfl
    | 11, _ => rfl
    | 12, _ => rfl
    | 13, _ => rfl
    | 14, _ => rfl
    | 15, _ => rfl
    | n + 16, h => omega

theorem sum_end (s : ByteArray) (y : Nat) (h : y = Rc3.reg 4294967295 (s.data.toList.take s.size)) (hy : y < 4294967296) : bits BinOp.xor IntKind.u32 IntKind.u32.max (y : Int) = ((Rc3.crc s.data.toList : Nat) : Int) := by
  have e : IntKind.u32.max = ((4294967295 : Nat) : Int) := by decide
  rw [e, u32_xor_nat _ _ (by decide) hy, Nat.xor_comm, h, List.take_of_length_le (by simp)]
  rfl

set_option maxHeartbeats 1000000 in
theorem Sum_any (s : ByteArray) (hs : s.size ≤ maxLen) (w : World) :
    Calls Tryz.prog 31 #[.string s] w fun e w' => e = .returned (.int .u32 ((Rc3.crc s.data.toList : Nat) : Int)) ∧ Below w.heap.size w w' := by
  have HS := Lib.hid hs
  unfold maxLen at hs
  go_enter Tryz.func31, Tryz.ntmps31
  go_wp2_with (go_at_call 50; refine (shifts_any _).mono ?_; unfold tabV; rintro e w1 ⟨rfl, hb1⟩)
  go_loopw [4, 9] (fun r i wr => ∃ k y : Nat, k ≤ s.size ∧ Hid (y = Rc3.reg 4294967295 (s.data.toList.take k) ∧ y < 4294967296) ∧ r = .int .u32 (y : Int) ∧ i = .int .i64 k ∧ Hid (TabAt w1.heap.size 16 wr ∧ Below w.heap.size w wr)) (fun _ i _ => (s.size - intOf i).toNat)
  case atStart => exact ⟨0, 4294967295, by omega, ⟨rfl, by decide⟩, rfl, rfl, ⟨TabAt.new w1 90, hb1.alloc hb1.size _⟩⟩
  case round =>
    obtain ⟨k, y, hk, hy, rfl, rfl, hT⟩ := hrel
    by_cases hlt : k < s.size
    · have hi : (k : Int) < s.size := by omega
      have hbyte := s[k].toNat_lt
      have hx : bits BinOp.xor IntKind.u32 (y : Int) (s[k].toNat : Int) = ((y ^^^ s[k].toNat : Nat) : Int) := u32_xor_nat y s[k].toNat hy.out.2 (by omega)
      have HX := Lib.hid (Nat.xor_lt_two_pow (n := 32) (x := y) (y := s[k].toNat) hy.out.2 (by omega))
      go_wp2
      clear hbyte
      go_loop [4, 18] (fun r i => ∃ q z : Nat, q ≤ 2 ∧ Hid (z = Rc3.it (4 * q) (y ^^^ s[k].toNat) ∧ z < 4294967296) ∧ r = .int .u32 (z : Int) ∧ i = .int .i64 q) (fun _ i => (2 - intOf i).toNat)
      case atStart => exact ⟨0, _, by omega, ⟨rfl, HX.out⟩, rfl, rfl⟩
      case round =>
        obtain ⟨q, z, hq, hz, rfl, rfl⟩ := hrel
        by_cases hq2 : q < 2
        · have hc := hT.out.1.2.2 (z % 16) (by omega)
          have HL := Lib.hid (Rc3.it_lt 4 (z % 16) (by omega))
          have hx2 : bits BinOp.xor IntKind.u32 ((z : Int) / 16) ((Rc3.it 4 (z % 16) : Nat) : Int) = ((z / 16 ^^^ Rc3.it 4 (z % 16) : Nat) : Int) := u32_xor_nat (z / 16) (Rc3.it 4 (z % 16)) (by have := hz.out; omega) HL.out
          go_wp2
          go_round
          case rel => exact ⟨q + 1, z / 16 ^^^ Rc3.it 4 (z % 16), by omega, ⟨by rw [show 4 * (q + 1) = 4 * q + 4 by omega, Rc3.it_add, ← hz.out.1, it_table4 z], Nat.xor_lt_two_pow (n := 32) (by have := hz.out; omega) HL.out⟩, rfl, by go_num⟩
          case measure => simp [intOf]; omega
        · obtain rfl : q = 2 := by omega
          go_wp2
          go_roundw
          case rel => exact ⟨k + 1, z, by omega, ⟨by rw [reg_next s k hlt, ← hy.out.1, hz.out.1], hz.out.2⟩, rfl, by go_num, hT⟩
          case measure => simp [intOf]; omega
    · obtain rfl : k = s.size := by omega
      go_wp2
      go_ret
      exact ⟨congrArg (fun z => Ending.returned (.int .u32 z)) (sum_end s y hy.out.1 hy.out.2), hT.out.2⟩

end Go.Proofs.YteellffkjjllgaaGreat
