/-
  HeadPuts: for every input the law answers true: whether a head is right, and its sector, or what is wrong, are as the document says. Conditions: none.
-/
import Derived.Test.YtnknojkihjpjkaaHdIn
namespace Go.Proofs.Ytnknojkihjpjkaa.headPuts
open Go.ChangeShapes Go.WideShapes Go.ChangeAt Go.RowKit Go.Rc5 Go.Rc6
open Go.ChangeMaps (open_string shut_string)

set_option maxRecDepth 100000 in
set_option maxHeartbeats 4000000 in
theorem long (g : Nat) (s z : Int) (a : Option Addr) (len c : Nat) (w : World) (hl : ¬ len ≤ 20) :
    Calls Try.prog 3 #[.agg #[.int .u64 (g : Int), .int .i64 s, .int .i64 z, .slice a len c]] w fun e w' => e = .returned (.bool true) ∧ Below w.heap.size w w' := by
  have hl' : (20 : Int) < len := by omega
  have HC := Lib.hid ((Crew.start w).block #[.int .u64 (g : Int), .int .i64 s, .int .i64 z, .slice a len c] 25)
  clear hl
  go_enter Try.func3, Try.ntmps3
  go_wp2_with fail
  refine (shown_any _).mono ?_
  rintro e w1 ⟨rfl, hb1⟩
  have C := HC.out.below hb1
  have c3 := (C.at 0 rfl (j := 3) rfl).1
  have HB := Lib.hid C.bel
  clear C HC hb1
  go_wp2_with fail
  go_ret
  exact ⟨rfl, HB.out⟩

set_option maxRecDepth 100000 in
set_option maxHeartbeats 8000000 in
theorem short (g : Nat) (s z : Int) (a : Option Addr) (len c : Nat) (w : World) (hl : len ≤ 20) (P : ByteArray) (x : Int) (r : Bool)
    (HP : ∀ W, Below w.heap.size w W → Calls Try.prog 10 #[.agg #[.int .u64 (g : Int), .int .i64 s, .int .i64 z, .slice a len c]] W fun e w' => e = .returned (.tuple #[.string P, .int .i64 x]) ∧ Below W.heap.size W w')
    (HPR : ∀ W, Below w.heap.size w W → Calls Try.prog 11 #[.agg #[.int .u64 (g : Int), .int .i64 s, .int .i64 z, .slice a len c]] W fun e w' => e = .returned (.tuple #[.string P, .int .i64 x]) ∧ Below W.heap.size W w')
    (HR : ∀ W, Below w.heap.size w W → Calls Try.prog 13 #[.agg #[.int .u64 (g : Int), .int .i64 s, .int .i64 z, .slice a len c]] W fun e w' => e = .returned (.bool r) ∧ Below W.heap.size W w')
    (HRR : ∀ W, Below w.heap.size w W → Calls Try.prog 14 #[.agg #[.int .u64 (g : Int), .int .i64 s, .int .i64 z, .slice a len c]] W fun e w' => e = .returned (.bool r) ∧ Below W.heap.size W w') :
    Calls Try.prog 3 #[.agg #[.int .u64 (g : Int), .int .i64 s, .int .i64 z, .slice a len c]] w fun e w' => e = .returned (.bool true) ∧ Below w.heap.size w w' := by
  have hl' : ¬ (20 : Int) < len := by omega
  have HC := Lib.hid ((Crew.start w).block #[.int .u64 (g : Int), .int .i64 s, .int .i64 z, .slice a len c] 25)
  have GP := Lib.hid HP
  have GPR := Lib.hid HPR
  have GR := Lib.hid HR
  have GRR := Lib.hid HRR
  have hp : (P.toList == P.toList) = true := by simp
  have hx : (x == x) = true := by simp
  have hr : (r == r) = true := by simp
  clear hl HP HPR HR HRR
  go_enter Try.func3, Try.ntmps3
  go_wp2_with fail
  refine (shown_any _).mono ?_
  rintro e w1 ⟨rfl, hb1⟩
  replace HC := Lib.hid (HC.out.below hb1)
  have c0 := (HC.out.at 0 rfl (j := 0) rfl).1
  have c1 := (HC.out.at 0 rfl (j := 1) rfl).1
  have c2 := (HC.out.at 0 rfl (j := 2) rfl).1
  have c3 := (HC.out.at 0 rfl (j := 3) rfl).1
  clear hb1
  go_wp2_with fail
  refine (GP.out _ HC.out.bel).mono ?_
  rintro e w2 ⟨rfl, hb2⟩
  replace HC := Lib.hid (HC.out.below hb2)
  clear c0 c1 c2 c3 hb2
  have c0 := (HC.out.at 0 rfl (j := 0) rfl).1
  have c1 := (HC.out.at 0 rfl (j := 1) rfl).1
  have c2 := (HC.out.at 0 rfl (j := 2) rfl).1
  have c3 := (HC.out.at 0 rfl (j := 3) rfl).1
  go_wp2_with fail
  refine (as_any _ _ _ _ _ _ _).mono ?_
  rintro e w3 ⟨rfl, hb3⟩
  replace HC := Lib.hid (HC.out.below hb3)
  clear c0 c1 c2 c3 hb3
  go_wp2_with fail
  refine (GPR.out _ HC.out.bel).mono ?_
  rintro e w4 ⟨rfl, hb4⟩
  replace HC := Lib.hid (HC.out.below hb4)
  clear hb4
  have c0 := fun p => after_cell (HC.out.at 0 rfl (j := 0) rfl).1 (HC.out.lt 0 rfl) p
  have c1 := fun p => after_cell (HC.out.at 0 rfl (j := 1) rfl).1 (HC.out.lt 0 rfl) p
  have c2 := fun p => after_cell (HC.out.at 0 rfl (j := 2) rfl).1 (HC.out.lt 0 rfl) p
  have c3 := fun p => after_cell (HC.out.at 0 rfl (j := 3) rfl).1 (HC.out.lt 0 rfl) p
  have FR := Lib.hid (fun p => after_of (W := w4) (fun W hW => GR.out W (below_trans HC.out.bel hW)) p)
  have FRR := Lib.hid (fun p => after_of (W := w4) (fun W hW => GRR.out W (below_trans HC.out.bel hW)) p)
  have FA := Lib.hid (fun p => after_of (W := w4) (fun W _ => as_any (g : Int) s z a len c W) p)
  go_wp2_with fail
  refine wp_region_after (by kernel_rfl) (by kernel_rfl) ?_
  repeat (go_big_quiet_step (first | with_reducible exact FR.out _ | with_reducible exact FA.out _ | with_reducible exact FRR.out _))
  refine wpQuiet_nil ?_
  intro _ hw
  obtain ⟨p, rfl⟩ := hw
  have HB := Lib.hid (below_trans HC.out.bel p.is)
  generalize p.to = wp at *
  go_wp2
  go_ret
  exact ⟨rfl, HB.out⟩

theorem walk (g : Nat) (s z : Int) (a : Option Addr) (len c : Nat) (L : List SpI) (w : World) (h : IsHead w g s z a len L) :
    Calls Try.prog 3 #[.agg #[.int .u64 (g : Int), .int .i64 s, .int .i64 z, .slice a len c]] w fun e w' => e = .returned (.bool true) ∧ Below w.heap.size w w' := by
  by_cases hl : len ≤ 20
  · obtain ⟨P, x, r, HP, HPR, HR, HRR, _⟩ := h.puts c
    exact short g s z a len c w hl P x r HP HPR HR HRR
  · exact long g s z a len c w hl

set_option maxRecDepth 100000 in
theorem lifted (os : Os) (started : os.Started) (H : Type) (enc : TypeId × Value → H) :
    ReturnsInHanded {} Try.checked os 3 .any (Rows.headPutsSpec.pre6 enc Try.prog Try.f3 Rows.headPutsRow.domain false) (Rows.headPutsSpec.post enc Try.prog Try.f3 false true false false) := by
  refine returnsInHanded_of_change (C := Try.checked) own started (by kernel_rfl) Try.func3
    (ChangeSpec.witness6 (enc := enc) (C := Try.checked) false ⟨#[], #[.agg #[.int .u64 0, .int .i64 0, .int .i64 0, .slice none 0 0]], []⟩ 8 (by kernel_rfl) (by kernel_rfl) (by kernel_rfl) (by kernel_rfl)) ?_
  intro W base args ds gs before hval0 hW _ _
  have hval : ∀ (j : Nat) t v, Try.f3.params[j]? = some t → args[j]? = some v → Value.okWide Try.prog W .any base t v := hval0
  have hW' := hW
  obtain ⟨p, q, hA0, hV, rfl, hfz, hnd⟩ := hW
  have hA : DataW.TrodAll enc Try.prog W 0 (fun _ => true) true Try.f3.params.toList args.toList ds p := hA0
  rw [Try.params3] at hA hval
  obtain ⟨v0, vs0, d0, ds0, p0, q0, hargs, rfl, rfl, h0, r0⟩ := trodAll_cons hA
  obtain ⟨rfl, rfl, rfl⟩ := trodAll_nil r0
  obtain rfl : args = #[v0] := by cases args; simp_all
  obtain ⟨rfl, rfl⟩ := trodVars_none hV
  have k0 := h0
  have lt0 : ∀ x ∈ p0, x.block < W.heap.size := by obtain ⟨m, hm⟩ := k0; exact DataW.trod_lt m _ _ _ hm
  obtain ⟨g0, s0, z0, a0, len0, cap0, l0, rfl, w0⟩ := open_head (hval 0 25 v0 rfl rfl) h0
  clear hA0 hval0
  refine (walk g0 s0 z0 a0 len0 cap0 l0 W w0).mono fun e W' ⟨he, bel⟩ => ?_
  subst he
  exact ⟨_, rfl, _, _, _, [], _, [], hW', trodAll_mk1 (shut_bool Try.underlying4 _), (trodAll_cons_mk (Below.trod laidOut (by kernel_rfl) (of_decide_eq_true (by kernel_rfl)) k0 bel lt0) trodAll_mk0), rfl, bel.frame _, fun h => by cases h⟩

theorem holds : Rows.HeadPutsSaid :=
  OpenClaim.holds_of_wide 3 Try.f3 rfl rfl rfl rfl rfl rfl rfl ⟨rfl, rfl, rfl, rfl, rfl⟩ rfl rfl rfl rfl rfl (by kernel_rfl) Try.func3 (by kernel_rfl)
    (of_decide_eq_true (by kernel_rfl)) (by unfold Func.isWrapper; first | (rw [if_pos (by decide +kernel)]; kernel_rfl) | (rw [if_neg (by decide +kernel)]; exact ⟨rfl, rfl⟩))
    (fun os started H enc _ => lifted os started H enc)

end Go.Proofs.Ytnknojkihjpjkaa.headPuts
