/-
  The chapter's examples, as the program answers them. Conditions: none.
-/
import Derived.Test.YtodidacblnhmgaaLePut
import Derived.Test.YtodidacblnhmgaaLeRead
namespace Go.Proofs.Ytodidacblnhmgaa
open Go.RowKit

theorem Rd.new (T : Nat) (s : ByteArray) (bad : Bool) (w : World) : Rd T w.heap.size s bad (w.alloc (.cells #[.string s, .bool bad] T (0, 0))) := by
  show (w.heap.push _)[w.heap.size]? = _
  simp

theorem ex1 : num ⟨#[1, 2]⟩ false 1 = 1 ∧ lft ⟨#[1, 2]⟩ (false || decide ((8 : Int) < 1)) 1 = ⟨#[2]⟩ ∧ no ⟨#[1, 2]⟩ (false || decide ((8 : Int) < 1)) 1 = false := ⟨by decide, by decide, by decide⟩
theorem ex2 : num ⟨#[2]⟩ false 2 = 0 ∧ lft ⟨#[2]⟩ (false || decide ((8 : Int) < 2)) 2 = ⟨#[2]⟩ ∧ no ⟨#[2]⟩ (false || decide ((8 : Int) < 2)) 2 = true := ⟨by decide, by decide, by decide⟩
theorem ex3 : Rc2.put (max 0 (min (3 : Int) 8)).toNat 258 = [2, 1, 0] := by decide

set_option maxHeartbeats 1000000 in
theorem shown_any (w : World) : Calls Try.prog 10 #[] w fun e w' => e = .returned (.bool true) ∧ Below w.heap.size w w' := by
  have hB := Lib.hid (Below.refl w.heap.size w)
  have hP := Put_any 258 (by decide) 3
  rw [ex3] at hP
  have HP := Lib.hid hP
  clear hP
  go_enter Try.func10, Try.ntmps10
  go_wp2_with fail
  refine (Number_any _ _ _ 1 (by decide) _ (Rd.new 30 _ _ w)).mono ?_
  rw [ex1.1, ex1.2.1, ex1.2.2]
  rintro e w1 ⟨rfl, hr1, hk1⟩
  go_wp2_with fail
  refine (Number_any _ _ _ 2 (by decide) _ hr1).mono ?_
  rw [ex2.1, ex2.2.1, ex2.2.2]
  rintro e w2 ⟨rfl, hr2, hk2⟩
  have hb2 : Hid (Below w.heap.size w w2) := ((hB.out.alloc (Nat.le_refl _) _).trans (hk1.below (Nat.le_refl _))).trans (hk2.below (Nat.le_refl _))
  go_wp2_with (go_at_call 11; refine (HP.out _).mono ?_; rintro e w3 ⟨rfl, hb⟩; have hr3 := hr2.below hb; have c1 : w3.cell? ⟨w.heap.size, 1, none⟩ = some (.bool true) := by (rw [Lib.cell_of_heap hr3]; rfl))
  go_ret
  exact ⟨rfl, hb2.out.trans (hb.mono hb2.out.size)⟩
end Go.Proofs.Ytodidacblnhmgaa
