/-
  What the five listed variables give a walk: the one cell of the de Bruijn table, and that the two error variables hold interface values; and that the program's own start meets them. Conditions: none.
-/
import Derived.Test.YtghnjdbamenkgaaDoorLaw
import Derived.Test.YtghnjdbamenkgaaDoorUnq
namespace Go.Proofs.YtghnjdbamenkgaaDoor
open Go.ChangeShapes Go.WideShapes Go.ChangeAt Go.RowKit

abbrev laid5 : List (String × DataW Unit) := Rows.labelQuotesRow.laid
theorem t1 : (Tryd.prog.globals[1]?).map (·.type) = some 45 := by kernel_rfl
theorem t2 : (Tryd.prog.globals[2]?).map (·.type) = some 45 := by kernel_rfl

theorem door_met5 (os : Os) (args : Array Value) : laidMetH Tryd.prog laid5 ((World.doorLaid Tryd.prog 400 os).forCall (fun _ _ => 0) ⟨#[], args, []⟩).memory :=
  laidMetH_of_parts3 (fuel := 8) (laidMet_of_run' 8 (by kernel_rfl) (by kernel_rfl)) (by kernel_rfl) (by kernel_rfl)

theorem iface_of_trod {H : Type} {enc : TypeId × Value → H} {P : Program} {t : TypeId} {ms : Array (String × TypeId)} (ht : P.underlying t = some (.interface ms)) {W : World} {base : Nat} {sp : Nat → Bool} {held : Bool} {fuel : Nat} {cs : List Value} {y : DataW H × List MemPlace} (h : DataW.trod enc P W base sp held fuel t cs = some y) : ∃ v, cs = [v] ∧ (v = .nilIface ∨ ∃ te pe, v = .iface te pe) := by
  cases fuel with
  | zero => simp [DataW.trod] at h
  | succ n =>
    match cs, h with
    | [], h => simp [DataW.trod, ht] at h
    | [v], h =>
      refine ⟨v, rfl, ?_⟩
      cases v <;> simp [DataW.trod, ht] at h ⊢
    | _ :: _ :: _, h => simp [DataW.trod, ht] at h

theorem of_laid5 {W : World} (h : laidMetH Tryd.prog laid5 W) : Tab W ∧ Errs W := by
  rw [MakeChecks.laidMetH_plain _ _ _ (by kernel_rfl)] at h
  obtain ⟨ps, ⟨g0, t0, cs0, f0, p0, q0, hg0, ht0, hv0, hd0, ⟨g1, t1', cs1, f1, p1, q1, hg1, ht1, hv1, hd1, ⟨g2, t2', cs2, f2, p2, q2, hg2, ht2, hv2, hd2, ⟨g3, t3, cs3, f3, p3, q3, hg3, ht3, hv3, hd3, ⟨g4, t4, cs4, f4, p4, q4, hg4, ht4, hv4, hd4, _, _⟩, _⟩, _⟩, _⟩, _⟩, _, _⟩ := h
  obtain rfl : 4 = g1 := Option.some.inj (Eq.trans (by kernel_rfl) hg1)
  obtain rfl := Option.some.inj (t64.symm.trans ht1)
  obtain rfl : 2 = g3 := Option.some.inj (Eq.trans (by kernel_rfl) hg3)
  obtain rfl := Option.some.inj (t2.symm.trans ht3)
  obtain rfl : 1 = g4 := Option.some.inj (Eq.trans (by kernel_rfl) hg4)
  obtain rfl := Option.some.inj (t1.symm.trans ht4)
  refine ⟨?_, ?_, ?_⟩
  · have e : (Rows.laid_math_bits_deBruijn64tab : DataW Unit) = Lib.tabData .u8 zs64 := rfl
    rw [e] at hd1
    have hc := Lib.cells_of_tab Tryd.underlying89 Tryd.underlying5 (by kernel_rfl) (by kernel_rfl) hd1
    have hx := World.var?_cell hg1 hv1 15
    unfold Tab
    rw [hx, ← Array.getElem?_toList, hc]
    rfl
  · obtain ⟨v, hc, hv⟩ := iface_of_trod Tryd.underlying45 hd4
    have hx := World.var?_cell hg4 hv4 0
    exact ⟨v, by rw [hx, ← Array.getElem?_toList, hc]; rfl, hv⟩
  · obtain ⟨v, hc, hv⟩ := iface_of_trod Tryd.underlying45 hd3
    have hx := World.var?_cell hg3 hv3 0
    exact ⟨v, by rw [hx, ← Array.getElem?_toList, hc]; rfl, hv⟩

theorem relTE {f : Nat} {args : Array Value} {E : Ending} (h : ∀ w, Tab w → Errs w → Calls Tryd.prog f args w fun e w' => e = E ∧ Below w.heap.size w w') (w : World) (hT : Tab w) (hE : Errs w) : ∀ w1, Below w.heap.size w w1 → Calls Tryd.prog f args w1 fun e w' => e = E ∧ Below w.heap.size w w' :=
  fun w1 hb => (h w1 (tab_next hT hb) (hE.next hb)).mono fun _ _ ⟨he, hw⟩ => ⟨he, below_trans hb hw⟩

end Go.Proofs.YtghnjdbamenkgaaDoor
