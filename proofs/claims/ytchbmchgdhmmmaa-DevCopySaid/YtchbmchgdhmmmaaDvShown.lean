/-
  The chapter's examples: 'shown' answers true. Conditions: none.
-/
import Derived.Test.YtchbmchgdhmmmaaDvFleet
import Derived.Test.YtchbmchgdhmmmaaDvSec
import Derived.RegionTactic
import Derived.BigRegion
namespace Go.Proofs.Ytchbmchgdhmmmaa
open Go.RowKit Go.Rc4

theorem row_made (base t : Nat) (w : World) (hb : base ≤ w.heap.size) (ks : List Int) (hm : ks.length ≤ 1000) : (w.alloc (.cells (ints ks).toArray t)).ownsRow base t 1 (.slice (some ⟨w.heap.size, 0, none⟩) ks.length ks.length) ks.length (ints ks) := by
  refine ⟨by simp [ints], .inr ⟨w.heap.size, ks.length, (ints ks).toArray, rfl, hb, heap_alloc_new w _, Nat.le_refl _, by unfold maxLen; omega, by simp [ints], ?_⟩⟩
  rw [Nat.mul_one]
  exact List.take_of_length_le (by simp [ints])

/-- A row of numbers that is made: one thing more. -/
theorem Fleet.row {base : Nat} {w0 w : World} {l : List (Thing base)} (h : Fleet base w0 l w) (ks : List Int) (hm : ks.length ≤ 1000) :
    Fleet base w0 (l ++ [rowT base 3 1 (.slice (some ⟨w.heap.size, 0, none⟩) ks.length ks.length) ks.length (ints ks)]) (w.alloc (.cells (ints ks).toArray 3)) :=
  h.more (t := rowT base 3 1 (.slice (some ⟨w.heap.size, 0, none⟩) ks.length ks.length) ks.length (ints ks)) ⟨row_made base _ w h.le ks hm, rfl⟩ ((Below.refl _ w).alloc (Nat.le_refl _) _) (fun k hk => by simp [Value.ownBlock] at hk; omega)

set_option maxHeartbeats 4000000 in
theorem shown_any (w : World) : Calls Try.prog 8 #[] w fun e w' => e = .returned (.bool true) ∧ Below w.heap.size w w' := by
  have HS := Lib.hid sector_any
  have h1 := sec_size 1
  have h2 := sec_size 2
  have h3 := sec_size 3
  have HS1 := Lib.hid (sector_any 1)
  have HS2 := Lib.hid (sector_any 2)
  have HS3 := Lib.hid (sector_any 3)
  clear HS
  generalize sec 1 = a at *
  generalize sec 2 = b at *
  generalize sec 3 = c at *
  have e0 : DS.new 2 = (⟨[nought, nought], [nought, nought], [], -1, false⟩ : DS) := by simp [DS.new, List.replicate]
  have f0 : DS.new 1 = (⟨[nought], [nought], [], -1, false⟩ : DS) := by simp [DS.new, List.replicate]
  have e1 : (⟨[nought, nought], [nought, nought], [], -1, false⟩ : DS).wr 0 a = (0, (⟨[a, nought], [nought, nought], [(0, a)], -1, false⟩ : DS)) := by simp [DS.wr, DS.reach, DS.tick, h1]
  have e2 : (⟨[a, nought], [nought, nought], [(0, a)], -1, false⟩ : DS).fl = (0, (⟨[a, nought], [a, nought], [], -1, false⟩ : DS)) := by simp [DS.fl, DS.tick, puts]
  have e3 : (⟨[a, nought], [a, nought], [], -1, false⟩ : DS).wr 0 b = (0, (⟨[b, nought], [a, nought], [(0, b)], -1, false⟩ : DS)) := by simp [DS.wr, DS.reach, DS.tick, h2]
  have e4 : (⟨[b, nought], [a, nought], [(0, b)], -1, false⟩ : DS).wr 0 c = (0, (⟨[c, nought], [a, nought], [(0, b), (0, c)], -1, false⟩ : DS)) := by simp [DS.wr, DS.reach, DS.tick, h3]
  have e5 : (⟨[c, nought], [a, nought], [(0, b), (0, c)], -1, false⟩ : DS).pw [1] = (⟨[b, nought], [b, nought], [], -1, false⟩ : DS) := by simp [DS.pw, puts, kept, kput]
  have e6 : (⟨[b, nought], [b, nought], [], -1, false⟩ : DS).rd 0 = (b, 0) := by simp [DS.rd, DS.reach]
  have f1 : (⟨[nought], [nought], [], 1, false⟩ : DS).wr 0 a = (0, (⟨[a], [nought], [(0, a)], 0, false⟩ : DS)) := by simp [DS.wr, DS.reach, DS.tick, h1]
  have f2 : (⟨[a], [nought], [(0, a)], 0, false⟩ : DS).wr 0 b = (8, (⟨[a], [nought], [(0, a)], 0, true⟩ : DS)) := by simp [DS.wr, DS.reach, h2]
  have f3 : (⟨[a], [nought], [(0, a)], 0, true⟩ : DS).pw [1, 1] = (⟨[a], [a], [], -1, false⟩ : DS) := by simp [DS.pw, puts, kept, kput]
  have f4 : (⟨[a], [a], [], -1, false⟩ : DS).rd 0 = (a, 0) := by simp [DS.rd, DS.reach]
  replace e0 := Lib.hid e0
  replace f0 := Lib.hid f0
  replace e1 := Lib.hid e1
  replace e2 := Lib.hid e2
  replace e3 := Lib.hid e3
  replace e4 := Lib.hid e4
  replace e5 := Lib.hid e5
  replace e6 := Lib.hid e6
  replace f1 := Lib.hid f1
  replace f2 := Lib.hid f2
  replace f3 := Lib.hid f3
  replace f4 := Lib.hid f4
  clear h1 h2 h3
  have HF := Lib.hid (Fleet.start w)
  go_enter Try.func8, Try.ntmps8
  go_wp2_with fail
  have C := fleet_new HF.out 2 (by omega) (by omega)
  rw [e0.out] at C
  refine C.mono ?_
  clear C
  rintro e w ⟨p, rfl, hF⟩
  replace HF := Lib.hid hF
  clear hF
  go_wp2_with fail
  have C := fleet_new HF.out 1 (by omega) (by omega)
  rw [f0.out] at C
  refine C.mono ?_
  clear C
  rintro e w ⟨q, rfl, hF⟩
  replace HF := Lib.hid hF
  clear hF
  go_wp2_with fail
  refine (HS1.out _).mono ?_
  rintro e w ⟨rfl, hb⟩
  replace HF := Lib.hid (HF.out.below hb)
  clear hb
  go_wp2_with fail
  have C := fleet_write HF.out 0 rfl (by simp) 0 a
  rw [e1.out] at C
  refine C.mono ?_
  clear C
  rintro e w ⟨rfl, hF⟩
  replace HF := Lib.hid hF
  clear hF
  go_wp2_with fail
  have C := fleet_flush HF.out 0 rfl
  rw [e2.out] at C
  refine C.mono ?_
  clear C
  rintro e w ⟨rfl, hF⟩
  replace HF := Lib.hid hF
  clear hF
  go_wp2_with fail
  refine (HS2.out _).mono ?_
  rintro e w ⟨rfl, hb⟩
  replace HF := Lib.hid (HF.out.below hb)
  clear hb
  go_wp2_with fail
  have C := fleet_write HF.out 0 rfl (by simp) 0 b
  rw [e3.out] at C
  refine C.mono ?_
  clear C
  rintro e w ⟨rfl, hF⟩
  replace HF := Lib.hid hF
  clear hF
  go_wp2_with fail
  refine (HS3.out _).mono ?_
  rintro e w ⟨rfl, hb⟩
  replace HF := Lib.hid (HF.out.below hb)
  clear hb
  go_wp2_with fail
  have C := fleet_write HF.out 0 rfl (by simp) 0 c
  rw [e4.out] at C
  refine C.mono ?_
  clear C
  rintro e w ⟨rfl, hF⟩
  replace HF := Lib.hid hF
  clear hF
  go_wp2_with fail
  replace HF := Lib.hid (HF.out.row [1] (by decide))
  have C := fleet_power_row HF.out 0 rfl 2 (by decide) _ _ _ _ rfl
  rw [e5.out] at C
  refine C.mono ?_
  clear C
  rintro e w ⟨rfl, hF⟩
  replace HF := Lib.hid hF
  clear hF
  go_wp2_with fail
  have C := fleet_read HF.out 0 rfl 0
  rw [e6.out] at C
  refine C.mono ?_
  clear C
  rintro e w ⟨rfl, rfl⟩
  go_wp2_with fail
  have C := fleet_arm HF.out 1 rfl 1 (by omega)
  refine C.mono ?_
  clear C
  rintro e w ⟨rfl, hF⟩
  replace HF := Lib.hid hF
  clear hF
  go_wp2_with fail
  refine (HS1.out _).mono ?_
  rintro e w ⟨rfl, hb⟩
  replace HF := Lib.hid (HF.out.below hb)
  clear hb
  go_wp2_with fail
  have C := fleet_write HF.out 1 rfl (by simp) 0 a
  rw [f1.out] at C
  refine C.mono ?_
  clear C
  rintro e w ⟨rfl, hF⟩
  replace HF := Lib.hid hF
  clear hF
  go_wp2_with fail
  refine (HS2.out _).mono ?_
  rintro e w ⟨rfl, hb⟩
  replace HF := Lib.hid (HF.out.below hb)
  clear hb
  go_wp2_with fail
  have C := fleet_write HF.out 1 rfl (by simp) 0 b
  rw [f2.out] at C
  refine C.mono ?_
  clear C
  rintro e w ⟨rfl, hF⟩
  replace HF := Lib.hid hF
  clear hF
  go_wp2_with fail
  replace HF := Lib.hid (HF.out.row [1, 1] (by decide))
  have C := fleet_power_row HF.out 1 rfl 3 (by decide) _ _ _ _ rfl
  rw [f3.out] at C
  refine C.mono ?_
  clear C
  rintro e w ⟨rfl, hF⟩
  replace HF := Lib.hid hF
  clear hF
  go_wp2_with fail
  have C := fleet_read HF.out 1 rfl 0
  rw [f4.out] at C
  refine C.mono ?_
  clear C
  rintro e w ⟨rfl, rfl⟩
  go_wp2_with fail
  refine (HS2.out _).mono ?_
  rintro e w ⟨rfl, hb⟩
  replace HF := Lib.hid (HF.out.below hb)
  clear hb
  go_wp2_with fail
  refine (HS1.out _).mono ?_
  rintro e w ⟨rfl, hb⟩
  replace HF := Lib.hid (HF.out.below hb)
  clear hb
  go_wp2
  go_ret
  exact ⟨rfl, HF.out.bel⟩

end Go.Proofs.Ytchbmchgdhmmmaa
