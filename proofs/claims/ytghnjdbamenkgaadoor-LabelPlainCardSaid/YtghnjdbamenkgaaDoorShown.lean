/-
  What the statements' head (the chapter's examples) answers: true. Condition: the library's table bears its number at place 15 (Tab).
-/
import Derived.Test.YtghnjdbamenkgaaDoorCount
namespace Go.Proofs.YtghnjdbamenkgaaDoor
open Go.RowKit

theorem below_trans {w w1 w2 : World} (h1 : Below w.heap.size w w1) (h2 : Below w1.heap.size w1 w2) : Below w.heap.size w w2 := h1.trans (h2.mono h1.size)
theorem tab_next {w w1 : World} (h : Tab w) (h1 : Below w.heap.size w w1) : Tab w1 := h.below h1 h.lt

theorem sh1 (w : World) : Calls Tryd.prog 14 #[.string ⟨#[97, 195, 169]⟩] w fun e w' => e = .returned (.int .i64 2) ∧ Below w.heap.size w w' := by
  have h := Count_any ⟨#[97, 195, 169]⟩ (by decide) w
  rwa [show Rc1.count (⟨#[97, 195, 169]⟩ : ByteArray).data.toList = 2 by kernel_rfl] at h
theorem sh2 (w : World) : Calls Tryd.prog 16 #[.string ⟨#[195, 169, 97]⟩, .int .i64 1] w fun e w' => e = .returned (.string ⟨#[195, 169]⟩) ∧ Below w.heap.size w w' := by
  have h := First_any ⟨#[195, 169, 97]⟩ 1 (by decide) w
  rwa [show Rc1.first (⟨#[195, 169, 97]⟩ : ByteArray).data.toList (1 : Int).toNat = [195, 169] by kernel_rfl] at h
theorem sh3 (w : World) (hT : Tab w) : Calls Tryd.prog 24 #[.string ⟨#[97, 32, 195, 169, 92]⟩] w fun e w' => e = .returned (.string ⟨#[97, 92, 123, 50, 48, 125, 92, 123, 101, 57, 125, 92, 92]⟩) ∧ Below w.heap.size w w' := by
  have h := Quote_any ⟨#[97, 32, 195, 169, 92]⟩ (by decide) w hT
  rwa [show Rc1.quote (⟨#[97, 32, 195, 169, 92]⟩ : ByteArray).data.toList = [97, 92, 123, 50, 48, 125, 92, 123, 101, 57, 125, 92, 92] by kernel_rfl] at h
theorem sh4 (w : World) (hT : Tab w) : Calls Tryd.prog 24 #[.string ⟨#[255]⟩] w fun e w' => e = .returned (.string ⟨#[92, 33, 102, 102]⟩) ∧ Below w.heap.size w w' := by
  have h := Quote_any ⟨#[255]⟩ (by decide) w hT
  rwa [show Rc1.quote (⟨#[255]⟩ : ByteArray).data.toList = [92, 33, 102, 102] by kernel_rfl] at h
theorem sh5 (w : World) : Calls Tryd.prog 18 #[.string ⟨#[98, 101, 102, 111, 114, 101, 32, 108, 117, 110, 99, 104]⟩] w fun e w' => e = .returned (.bool true) ∧ Below w.heap.size w w' := by
  have h := Right_any ⟨#[98, 101, 102, 111, 114, 101, 32, 108, 117, 110, 99, 104]⟩ (by decide) w
  rwa [show Rc1.right (⟨#[98, 101, 102, 111, 114, 101, 32, 108, 117, 110, 99, 104]⟩ : ByteArray).data.toList = true by kernel_rfl] at h
theorem sh6 (w : World) : Calls Tryd.prog 18 #[.string ⟨#[32, 120]⟩] w fun e w' => e = .returned (.bool false) ∧ Below w.heap.size w w' := by
  have h := Right_any ⟨#[32, 120]⟩ (by decide) w
  rwa [show Rc1.right (⟨#[32, 120]⟩ : ByteArray).data.toList = false by kernel_rfl] at h

set_option maxHeartbeats 400000 in
theorem shown_any (w : World) (hT : Tab w) : Calls Tryd.prog 11 #[] w fun e w' => e = .returned (.bool true) ∧ Below w.heap.size w w' := by
  have HT := Lib.hid hT
  clear hT
  go_enter Tryd.func11, Tryd.ntmps11
  go_wp2_with (go_at_call 14; ((with_reducible refine (sh1 _).mono ?_)); rintro e w1 ⟨rfl, b1⟩)
  go_wp2_with (go_at_call 16; ((with_reducible refine (sh2 _).mono ?_)); rintro e w2 ⟨rfl, b2⟩)
  have c2 := below_trans b1 b2
  go_wp2_with (go_at_call 24; ((with_reducible refine (sh3 _ (tab_next HT.out c2)).mono ?_)); rintro e w3 ⟨rfl, b3⟩)
  have c3 := below_trans c2 b3
  go_wp2_with (go_at_call 24; ((with_reducible refine (sh4 _ (tab_next HT.out c3)).mono ?_)); rintro e w4 ⟨rfl, b4⟩)
  have c4 := below_trans c3 b4
  go_wp2_with (go_at_call 18; ((with_reducible refine (sh5 _).mono ?_)); rintro e w5 ⟨rfl, b5⟩)
  go_wp2_with (go_at_call 18; ((with_reducible refine (sh6 _).mono ?_)); rintro e w6 ⟨rfl, b6⟩)
  go_ret
  exact ⟨rfl, below_trans (below_trans c4 b5) b6⟩

end Go.Proofs.YtghnjdbamenkgaaDoor
