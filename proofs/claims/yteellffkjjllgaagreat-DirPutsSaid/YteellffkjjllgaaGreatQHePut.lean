/-
  What seal.Put, seal.Take and seal.Equal answer. Condition: each text has at most as many bytes as a text may have.
-/
import Derived.Test.YteellffkjjllgaaGreatQSeSum
import Derived.Test.YteellffkjjllgaaGreatQLePut
import Derived.Deep.QuietTactic
import Derived.BigQuiet
import Derived.IntWalk
import Derived.WalkSmall
namespace Go.Proofs.YteellffkjjllgaaGreat
open Go.RowKit

theorem Put4 (n : Nat) (hn : n < 4294967296) (w : World) :
    Calls Tryz.prog 18 #[.int .u64 (n : Int), .int .i64 4] w fun e w' => e = .returned (.string ⟨(Rc2.put 4 n).toArray⟩) ∧ Below w.heap.size w w' :=
  Put_core n (by omega) 4 4 (by omega) (by omega) w

def sealedB (s : ByteArray) : ByteArray := s ++ ⟨(Rc2.put 4 (Rc3.crc s.data.toList)).toArray⟩

theorem size_put (k n : Nat) : (ByteArray.mk (Rc2.put k n).toArray).size = k := by
  show (Rc2.put k n).toArray.size = k
  rw [List.size_toArray, Rc2.put_length]

theorem wrap_crc (l : List UInt8) : IntKind.u64.wrap ((Rc3.crc l : Nat) : Int) = ((Rc3.crc l : Nat) : Int) := by
  have := Rc3.crc_lt l
  rw [IntKind.wrap_u64]
  omega

set_option maxHeartbeats 1000000 in
theorem Put_seal (s : ByteArray) (hs : s.size + 4 ≤ maxLen) (w : World) :
    Calls Tryz.prog 17 #[.string s] w fun e w' => e = .returned (.string (sealedB s)) ∧ Below w.heap.size w w' := by
  have HS := Lib.hid (Sum_any s (by omega))
  have hp := Put4 (Rc3.crc s.data.toList) (Rc3.crc_lt _)
  have hsz := size_put 4 (Rc3.crc s.data.toList)
  have hout := Lib.hid (show s ++ ByteArray.mk (Rc2.put 4 (Rc3.crc s.data.toList)).toArray = sealedB s from rfl)
  have hadd : (9223372036854775807 < s.size + 4) = False := by
    unfold maxLen at hs
    exact eq_false (by omega)
  generalize ByteArray.mk (Rc2.put 4 (Rc3.crc s.data.toList)).toArray = P at hp hsz hout
  have HP := Lib.hid hp
  have hw := wrap_crc s.data.toList
  clear hs hp
  go_enter Tryz.func17, Tryz.ntmps17
  go_wp2_with (first | (go_at_call 31; ((with_reducible refine (HS.out _).mono ?_)); rintro e w1 ⟨rfl, hb1⟩) | (go_at_call 18; ((with_reducible refine (HP.out _).mono ?_)); rintro e w1 ⟨rfl, hb2⟩))
  go_ret
  rw [← hout.out]
  exact ⟨rfl, hb1.trans (hb2.mono hb1.size)⟩


def ahead (s : ByteArray) : ByteArray := s.extract 0 (s.size - 4)
def behind (s : ByteArray) : ByteArray := s.extract (s.size - 4) s.size

set_option maxHeartbeats 1000000 in
theorem Take_short (s : ByteArray) (h : s.size < 4) (w : World) :
    Calls Tryz.prog 14 #[.string s] w fun e w' => e = .returned (.tuple #[.string ⟨#[]⟩, .int .i64 10]) ∧ Below w.heap.size w w' := by
  have hi : (s.size : Int) < 4 := by omega
  go_enter Tryz.func14, Tryz.ntmps14
  go_wp2
  go_ret2
  exact ⟨rfl, Below.refl _ _⟩

set_option maxHeartbeats 1000000 in
theorem Take_bad (s : ByteArray) (h : 4 ≤ s.size) (hs : s.size ≤ maxLen) (hne : Rc2.get (behind s).data.toList ≠ Rc3.crc (ahead s).data.toList) (w : World) :
    Calls Tryz.prog 14 #[.string s] w fun e w' => e = .returned (.tuple #[.string ⟨#[]⟩, .int .i64 9]) ∧ Below w.heap.size w w' := by
  unfold ahead behind at hne
  have hi : ¬ (s.size : Int) < 4 := by omega
  have hg := Get_any (s.extract (s.size - 4) s.size) (by rw [ByteArray.size_extract]; omega)
  have hsum := Sum_any (s.extract 0 (s.size - 4)) (by rw [ByteArray.size_extract]; omega)
  have hw := wrap_crc (s.extract 0 (s.size - 4)).data.toList
  unfold maxLen at hs
  have h1 : IntKind.i64.wrap ((s.size : Int) - 4) = (s.size : Int) - 4 := IntWalk.i64_in _ (by omega)
  have h2 : (0 : Int) ≤ (s.size : Int) - 4 := by omega
  have h3 : ((s.size : Int) - 4).toNat = s.size - 4 := by omega
  have h4 : (s.size : Int) - 4 ≤ s.size := by omega
  have HG := Lib.hid hg
  have HS := Lib.hid hsum
  have HW := Lib.hid hw
  have HNE := Lib.hid hne
  clear hg hsum hw hne
  go_enter Tryz.func14, Tryz.ntmps14
  go_wp2
  go_quiet (fail)
  clear h1 h2 h3 h4
  have HB := Lib.hid (below_drewN (Below.refl w.heap.size w) nq)
  generalize w.drewN nq = wq at HB ⊢
  generalize s.extract 0 (s.size - 4) = P at HS HW HNE ⊢
  generalize s.extract (s.size - 4) s.size = B at HG HNE ⊢
  generalize Rc2.get B.data.toList = g at HG HNE ⊢
  generalize Rc3.crc P.data.toList = c at HS HW HNE ⊢
  have hw := HW.out
  have ht : ((g : Int) != (c : Int)) = true := by have := HNE.out; simp; omega
  go_wp2_with (first | (go_at_call 30; ((with_reducible refine (HG.out _).mono ?_)); rintro e w1 ⟨rfl, rfl⟩) | (go_at_call 31; ((with_reducible refine (HS.out _).mono ?_)); rintro e w1 ⟨rfl, hb1⟩))
  go_ret2
  exact ⟨rfl, HB.out.trans (hb1.mono HB.out.size)⟩
set_option maxHeartbeats 1000000 in
theorem Take_good (s : ByteArray) (h : 4 ≤ s.size) (hs : s.size ≤ maxLen) (hne : Rc2.get (behind s).data.toList = Rc3.crc (ahead s).data.toList) (w : World) :
    Calls Tryz.prog 14 #[.string s] w fun e w' => e = .returned (.tuple #[.string (ahead s), .int .i64 0]) ∧ Below w.heap.size w w' := by
  unfold ahead behind at hne
  have hi : ¬ (s.size : Int) < 4 := by omega
  have hg := Get_any (s.extract (s.size - 4) s.size) (by rw [ByteArray.size_extract]; omega)
  have hsum := Sum_any (s.extract 0 (s.size - 4)) (by rw [ByteArray.size_extract]; omega)
  have hw := wrap_crc (s.extract 0 (s.size - 4)).data.toList
  unfold maxLen at hs
  have h1 : IntKind.i64.wrap ((s.size : Int) - 4) = (s.size : Int) - 4 := IntWalk.i64_in _ (by omega)
  have h2 : (0 : Int) ≤ (s.size : Int) - 4 := by omega
  have h3 : ((s.size : Int) - 4).toNat = s.size - 4 := by omega
  have h4 : (s.size : Int) - 4 ≤ s.size := by omega
  have HG := Lib.hid hg
  have HS := Lib.hid hsum
  have HW := Lib.hid hw
  have HNE := Lib.hid hne
  clear hg hsum hw hne
  go_enter Tryz.func14, Tryz.ntmps14
  go_wp2
  go_quiet (fail)
  clear h1 h2 h3 h4
  have HB := Lib.hid (below_drewN (Below.refl w.heap.size w) nq)
  generalize w.drewN nq = wq at HB ⊢
  generalize hP : s.extract 0 (s.size - 4) = P at HS HW HNE ⊢
  have HP := Lib.hid hP
  clear hP
  generalize s.extract (s.size - 4) s.size = B at HG HNE ⊢
  generalize Rc2.get B.data.toList = g at HG HNE ⊢
  generalize Rc3.crc P.data.toList = c at HS HW HNE ⊢
  have hw := HW.out
  have ht : ((g : Int) != (c : Int)) = false := by have := HNE.out; simp; omega
  go_wp2_with (first | (go_at_call 30; ((with_reducible refine (HG.out _).mono ?_)); rintro e w1 ⟨rfl, rfl⟩) | (go_at_call 31; ((with_reducible refine (HS.out _).mono ?_)); rintro e w1 ⟨rfl, hb1⟩))
  go_ret2
  unfold ahead
  rw [HP.out]
  exact ⟨rfl, HB.out.trans (hb1.mono HB.out.size)⟩

end Go.Proofs.YteellffkjjllgaaGreat
