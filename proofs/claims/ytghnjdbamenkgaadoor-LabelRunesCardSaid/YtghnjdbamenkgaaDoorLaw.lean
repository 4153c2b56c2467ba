/-
  What the listed variables give a walk (the one cell of the de Bruijn table), that the program's own start meets them, and small words for walking a law: contracts that hold from one world on. Conditions: none.
-/
import Derived.Test.YtghnjdbamenkgaaDoorTie
import Derived.Test.YtghnjdbamenkgaaDoorCards
import Derived.Test.YtghnjdbamenkgaaDoorShown
import Derived.ProofKit
import Derived.LaidMore
import Derived.OpenShut
import Derived.ShutString
import Derived.Lib.LaidTab
import Derived.Stop.Joined
namespace Go.Proofs.YtghnjdbamenkgaaDoor
open Go.ChangeShapes Go.WideShapes Go.ChangeAt Go.RowKit

theorem own : ownKnob Tryd.prog.godebug = none := by kernel_rfl
theorem t64 : (Tryd.prog.globals[4]?).map (·.type) = some 89 := by kernel_rfl

abbrev laid3 : List (String × DataW Unit) := Rows.labelRunesRow.laid

def zs64 : List Int := [0, 1, 56, 2, 57, 49, 28, 3, 61, 58, 42, 50, 38, 29, 17, 4, 62, 47, 59, 36, 45, 43, 51, 22, 53, 39, 33, 30, 24, 18, 12, 5, 63, 55, 48, 27, 60, 41, 37, 16, 46, 35, 44, 21, 52, 32, 23, 11, 54, 26, 40, 15, 34, 20, 31, 10, 25, 14, 19, 9, 13, 8, 7, 6]

theorem door_met (os : Os) (args : Array Value) : laidMetH Tryd.prog laid3 ((World.doorLaid Tryd.prog 400 os).forCall (fun _ _ => 0) ⟨#[], args, []⟩).memory :=
  laidMetH_of_parts3 (fuel := 8) (laidMet_of_run' 8 (by kernel_rfl) (by kernel_rfl)) (by kernel_rfl) (by kernel_rfl)

theorem of_laid {W : World} (h : laidMetH Tryd.prog laid3 W) : Tab W := by
  rw [MakeChecks.laidMetH_plain _ _ _ (by kernel_rfl)] at h
  obtain ⟨ps, ⟨g0, t0, cs0, f0, p0, q0, hg0, ht0, hv0, hd0, ⟨g1, t1, cs1, f1, p1, q1, hg1, ht1, hv1, hd1, _, _⟩, _⟩, _, _⟩ := h
  obtain rfl : 4 = g1 := Option.some.inj (Eq.trans (by kernel_rfl) hg1)
  obtain rfl := Option.some.inj (t64.symm.trans ht1)
  have e : (Rows.laid_math_bits_deBruijn64tab : DataW Unit) = Lib.tabData .u8 zs64 := rfl
  rw [e] at hd1
  have hc := Lib.cells_of_tab Tryd.underlying89 Tryd.underlying5 (by kernel_rfl) (by kernel_rfl) hd1
  have hx := World.var?_cell hg1 hv1 15
  unfold Tab
  rw [hx, ← Array.getElem?_toList, hc]
  rfl

/-- A contract that answers, and makes at most new memory, holds from one world on. -/
theorem rel {f : Nat} {args : Array Value} {E : Ending} (h : ∀ w, Calls Tryd.prog f args w fun e w' => e = E ∧ Below w.heap.size w w') (w : World) : ∀ w1, Below w.heap.size w w1 → Calls Tryd.prog f args w1 fun e w' => e = E ∧ Below w.heap.size w w' :=
  fun w1 hb => (h w1).mono fun _ _ ⟨he, hw⟩ => ⟨he, below_trans hb hw⟩
theorem relT {f : Nat} {args : Array Value} {E : Ending} (h : ∀ w, Tab w → Calls Tryd.prog f args w fun e w' => e = E ∧ Below w.heap.size w w') (w : World) (hT : Tab w) : ∀ w1, Below w.heap.size w w1 → Calls Tryd.prog f args w1 fun e w' => e = E ∧ Below w.heap.size w w' :=
  fun w1 hb => (h w1 (tab_next hT hb)).mono fun _ _ ⟨he, hw⟩ => ⟨he, below_trans hb hw⟩

end Go.Proofs.YtghnjdbamenkgaaDoor
