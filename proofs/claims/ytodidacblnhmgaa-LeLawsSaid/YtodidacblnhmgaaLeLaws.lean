/-
  LeLaws: for every input the law answers true: a sum and a product do not hang on the order, and what was added or multiplied is found again. Conditions: none.
-/
import Derived.Test.YtodidacblnhmgaaLeLaw
import Derived.Test.YtodidacblnhmgaaLeSum
namespace Go.Proofs.Ytodidacblnhmgaa.leLaws
open Go.ChangeShapes Go.WideShapes Go.ChangeAt Go.RowKit
open Go.ChangeMaps (open_string shut_string)

set_option maxHeartbeats 2000000 in
theorem core (a b c x z s t u : Nat) (one three five six seven : Bool) (w : World) (hb : (b : Int) ≤ 18446744073709551615)
    (HA : Hid (∀ w1, Below w.heap.size w w1 → Calls Try.prog 21 #[.int .u64 a, .int .u64 b] w1 fun e w' => e = .returned (.tuple #[.int .u64 x, .bool one]) ∧ Below w.heap.size w w'))
    (HB : Hid (∀ w1, Below w.heap.size w w1 → Calls Try.prog 21 #[.int .u64 b, .int .u64 a] w1 fun e w' => e = .returned (.tuple #[.int .u64 x, .bool one]) ∧ Below w.heap.size w w'))
    (HC : Hid (∀ w1, Below w.heap.size w w1 → Calls Try.prog 23 #[.int .u64 a, .int .u64 b] w1 fun e w' => e = .returned (.tuple #[.int .u64 z, .bool three]) ∧ Below w.heap.size w w'))
    (HD : Hid (∀ w1, Below w.heap.size w w1 → Calls Try.prog 23 #[.int .u64 b, .int .u64 a] w1 fun e w' => e = .returned (.tuple #[.int .u64 z, .bool three]) ∧ Below w.heap.size w w'))
    (HE : Hid (∀ w1, Below w.heap.size w w1 → Calls Try.prog 21 #[.int .u64 x, .int .u64 c] w1 fun e w' => e = .returned (.tuple #[.int .u64 s, .bool five]) ∧ Below w.heap.size w w'))
    (HF : Hid (∀ w1, Below w.heap.size w w1 → Calls Try.prog 21 #[.int .u64 b, .int .u64 c] w1 fun e w' => e = .returned (.tuple #[.int .u64 t, .bool six]) ∧ Below w.heap.size w w'))
    (HG : Hid (∀ w1, Below w.heap.size w w1 → Calls Try.prog 21 #[.int .u64 a, .int .u64 t] w1 fun e w' => e = .returned (.tuple #[.int .u64 u, .bool seven]) ∧ Below w.heap.size w w'))
    (h1 : one = true → IntKind.u64.wrap ((x : Int) - a) = b) (h2 : three = true → 0 < (a : Int) → (z : Int) / (a : Int) = b) (h3 : one = true → six = true → five = seven ∧ s = u) :
    Calls Try.prog 9 #[.int .u64 a, .int .u64 b, .int .u64 c] w fun e w' => e = .returned (.bool true) ∧ Below w.heap.size w w' := by
  have HS := Lib.hid (rel shown_any w)
  have hbw := Below.refl w.heap.size w
  cases one with
  | false =>
    clear h1 h3
    cases three with
    | false =>
      clear h2
      go_enter Try.func9, Try.ntmps9
      go_wp2_with (first | (go_at_call 10; ((with_reducible refine (HS.out _ (by assumption)).mono ?_)); rintro e w1 ⟨rfl, hbw⟩) | (go_at_call 21; ((with_reducible refine (HA.out _ (by assumption)).mono ?_)); rintro e w1 ⟨rfl, hbw⟩) | (go_at_call 21; ((with_reducible refine (HB.out _ (by assumption)).mono ?_)); rintro e w1 ⟨rfl, hbw⟩) | (go_at_call 23; ((with_reducible refine (HC.out _ (by assumption)).mono ?_)); rintro e w1 ⟨rfl, hbw⟩) | (go_at_call 23; ((with_reducible refine (HD.out _ (by assumption)).mono ?_)); rintro e w1 ⟨rfl, hbw⟩) | (go_at_call 21; ((with_reducible refine (HE.out _ (by assumption)).mono ?_)); rintro e w1 ⟨rfl, hbw⟩) | (go_at_call 21; ((with_reducible refine (HF.out _ (by assumption)).mono ?_)); rintro e w1 ⟨rfl, hbw⟩) | (go_at_call 21; ((with_reducible refine (HG.out _ (by assumption)).mono ?_)); rintro e w1 ⟨rfl, hbw⟩))
      go_ret
      exact ⟨rfl, hbw⟩
    | true =>
      by_cases ha : 0 < (a : Int)
      · have h2 := h2 rfl ha
        go_enter Try.func9, Try.ntmps9
        go_wp2_with (first | (go_at_call 10; ((with_reducible refine (HS.out _ (by assumption)).mono ?_)); rintro e w1 ⟨rfl, hbw⟩) | (go_at_call 21; ((with_reducible refine (HA.out _ (by assumption)).mono ?_)); rintro e w1 ⟨rfl, hbw⟩) | (go_at_call 21; ((with_reducible refine (HB.out _ (by assumption)).mono ?_)); rintro e w1 ⟨rfl, hbw⟩) | (go_at_call 23; ((with_reducible refine (HC.out _ (by assumption)).mono ?_)); rintro e w1 ⟨rfl, hbw⟩) | (go_at_call 23; ((with_reducible refine (HD.out _ (by assumption)).mono ?_)); rintro e w1 ⟨rfl, hbw⟩) | (go_at_call 21; ((with_reducible refine (HE.out _ (by assumption)).mono ?_)); rintro e w1 ⟨rfl, hbw⟩) | (go_at_call 21; ((with_reducible refine (HF.out _ (by assumption)).mono ?_)); rintro e w1 ⟨rfl, hbw⟩) | (go_at_call 21; ((with_reducible refine (HG.out _ (by assumption)).mono ?_)); rintro e w1 ⟨rfl, hbw⟩))
        go_ret
        exact ⟨rfl, hbw⟩
      · clear h2
        have ha : ¬ 0 < (a : Int) := ha
        go_enter Try.func9, Try.ntmps9
        go_wp2_with (first | (go_at_call 10; ((with_reducible refine (HS.out _ (by assumption)).mono ?_)); rintro e w1 ⟨rfl, hbw⟩) | (go_at_call 21; ((with_reducible refine (HA.out _ (by assumption)).mono ?_)); rintro e w1 ⟨rfl, hbw⟩) | (go_at_call 21; ((with_reducible refine (HB.out _ (by assumption)).mono ?_)); rintro e w1 ⟨rfl, hbw⟩) | (go_at_call 23; ((with_reducible refine (HC.out _ (by assumption)).mono ?_)); rintro e w1 ⟨rfl, hbw⟩) | (go_at_call 23; ((with_reducible refine (HD.out _ (by assumption)).mono ?_)); rintro e w1 ⟨rfl, hbw⟩) | (go_at_call 21; ((with_reducible refine (HE.out _ (by assumption)).mono ?_)); rintro e w1 ⟨rfl, hbw⟩) | (go_at_call 21; ((with_reducible refine (HF.out _ (by assumption)).mono ?_)); rintro e w1 ⟨rfl, hbw⟩) | (go_at_call 21; ((with_reducible refine (HG.out _ (by assumption)).mono ?_)); rintro e w1 ⟨rfl, hbw⟩))
        go_ret
        exact ⟨rfl, hbw⟩
  | true =>
    have h1 := h1 rfl
    cases six with
    | false =>
      clear h3
      cases three with
      | false =>
        clear h2
        go_enter Try.func9, Try.ntmps9
        go_wp2_with (first | (go_at_call 10; ((with_reducible refine (HS.out _ (by assumption)).mono ?_)); rintro e w1 ⟨rfl, hbw⟩) | (go_at_call 21; ((with_reducible refine (HA.out _ (by assumption)).mono ?_)); rintro e w1 ⟨rfl, hbw⟩) | (go_at_call 21; ((with_reducible refine (HB.out _ (by assumption)).mono ?_)); rintro e w1 ⟨rfl, hbw⟩) | (go_at_call 23; ((with_reducible refine (HC.out _ (by assumption)).mono ?_)); rintro e w1 ⟨rfl, hbw⟩) | (go_at_call 23; ((with_reducible refine (HD.out _ (by assumption)).mono ?_)); rintro e w1 ⟨rfl, hbw⟩) | (go_at_call 21; ((with_reducible refine (HE.out _ (by assumption)).mono ?_)); rintro e w1 ⟨rfl, hbw⟩) | (go_at_call 21; ((with_reducible refine (HF.out _ (by assumption)).mono ?_)); rintro e w1 ⟨rfl, hbw⟩) | (go_at_call 21; ((with_reducible refine (HG.out _ (by assumption)).mono ?_)); rintro e w1 ⟨rfl, hbw⟩))
        go_ret
        exact ⟨rfl, hbw⟩
      | true =>
        by_cases ha : 0 < (a : Int)
        · have h2 := h2 rfl ha
          go_enter Try.func9, Try.ntmps9
          go_wp2_with (first | (go_at_call 10; ((with_reducible refine (HS.out _ (by assumption)).mono ?_)); rintro e w1 ⟨rfl, hbw⟩) | (go_at_call 21; ((with_reducible refine (HA.out _ (by assumption)).mono ?_)); rintro e w1 ⟨rfl, hbw⟩) | (go_at_call 21; ((with_reducible refine (HB.out _ (by assumption)).mono ?_)); rintro e w1 ⟨rfl, hbw⟩) | (go_at_call 23; ((with_reducible refine (HC.out _ (by assumption)).mono ?_)); rintro e w1 ⟨rfl, hbw⟩) | (go_at_call 23; ((with_reducible refine (HD.out _ (by assumption)).mono ?_)); rintro e w1 ⟨rfl, hbw⟩) | (go_at_call 21; ((with_reducible refine (HE.out _ (by assumption)).mono ?_)); rintro e w1 ⟨rfl, hbw⟩) | (go_at_call 21; ((with_reducible refine (HF.out _ (by assumption)).mono ?_)); rintro e w1 ⟨rfl, hbw⟩) | (go_at_call 21; ((with_reducible refine (HG.out _ (by assumption)).mono ?_)); rintro e w1 ⟨rfl, hbw⟩))
          go_ret
          exact ⟨rfl, hbw⟩
        · clear h2
          have ha : ¬ 0 < (a : Int) := ha
          go_enter Try.func9, Try.ntmps9
          go_wp2_with (first | (go_at_call 10; ((with_reducible refine (HS.out _ (by assumption)).mono ?_)); rintro e w1 ⟨rfl, hbw⟩) | (go_at_call 21; ((with_reducible refine (HA.out _ (by assumption)).mono ?_)); rintro e w1 ⟨rfl, hbw⟩) | (go_at_call 21; ((with_reducible refine (HB.out _ (by assumption)).mono ?_)); rintro e w1 ⟨rfl, hbw⟩) | (go_at_call 23; ((with_reducible refine (HC.out _ (by assumption)).mono ?_)); rintro e w1 ⟨rfl, hbw⟩) | (go_at_call 23; ((with_reducible refine (HD.out _ (by assumption)).mono ?_)); rintro e w1 ⟨rfl, hbw⟩) | (go_at_call 21; ((with_reducible refine (HE.out _ (by assumption)).mono ?_)); rintro e w1 ⟨rfl, hbw⟩) | (go_at_call 21; ((with_reducible refine (HF.out _ (by assumption)).mono ?_)); rintro e w1 ⟨rfl, hbw⟩) | (go_at_call 21; ((with_reducible refine (HG.out _ (by assumption)).mono ?_)); rintro e w1 ⟨rfl, hbw⟩))
          go_ret
          exact ⟨rfl, hbw⟩
    | true =>
      obtain ⟨rfl, rfl⟩ := h3 rfl rfl
      clear h3
      cases three with
      | false =>
        clear h2
        go_enter Try.func9, Try.ntmps9
        go_wp2_with (first | (go_at_call 10; ((with_reducible refine (HS.out _ (by assumption)).mono ?_)); rintro e w1 ⟨rfl, hbw⟩) | (go_at_call 21; ((with_reducible refine (HA.out _ (by assumption)).mono ?_)); rintro e w1 ⟨rfl, hbw⟩) | (go_at_call 21; ((with_reducible refine (HB.out _ (by assumption)).mono ?_)); rintro e w1 ⟨rfl, hbw⟩) | (go_at_call 23; ((with_reducible refine (HC.out _ (by assumption)).mono ?_)); rintro e w1 ⟨rfl, hbw⟩) | (go_at_call 23; ((with_reducible refine (HD.out _ (by assumption)).mono ?_)); rintro e w1 ⟨rfl, hbw⟩) | (go_at_call 21; ((with_reducible refine (HE.out _ (by assumption)).mono ?_)); rintro e w1 ⟨rfl, hbw⟩) | (go_at_call 21; ((with_reducible refine (HF.out _ (by assumption)).mono ?_)); rintro e w1 ⟨rfl, hbw⟩) | (go_at_call 21; ((with_reducible refine (HG.out _ (by assumption)).mono ?_)); rintro e w1 ⟨rfl, hbw⟩))
        go_ret
        exact ⟨rfl, hbw⟩
      | true =>
        by_cases ha : 0 < (a : Int)
        · have h2 := h2 rfl ha
          go_enter Try.func9, Try.ntmps9
          go_wp2_with (first | (go_at_call 10; ((with_reducible refine (HS.out _ (by assumption)).mono ?_)); rintro e w1 ⟨rfl, hbw⟩) | (go_at_call 21; ((with_reducible refine (HA.out _ (by assumption)).mono ?_)); rintro e w1 ⟨rfl, hbw⟩) | (go_at_call 21; ((with_reducible refine (HB.out _ (by assumption)).mono ?_)); rintro e w1 ⟨rfl, hbw⟩) | (go_at_call 23; ((with_reducible refine (HC.out _ (by assumption)).mono ?_)); rintro e w1 ⟨rfl, hbw⟩) | (go_at_call 23; ((with_reducible refine (HD.out _ (by assumption)).mono ?_)); rintro e w1 ⟨rfl, hbw⟩) | (go_at_call 21; ((with_reducible refine (HE.out _ (by assumption)).mono ?_)); rintro e w1 ⟨rfl, hbw⟩) | (go_at_call 21; ((with_reducible refine (HF.out _ (by assumption)).mono ?_)); rintro e w1 ⟨rfl, hbw⟩) | (go_at_call 21; ((with_reducible refine (HG.out _ (by assumption)).mono ?_)); rintro e w1 ⟨rfl, hbw⟩))
          go_ret
          exact ⟨rfl, hbw⟩
        · clear h2
          have ha : ¬ 0 < (a : Int) := ha
          go_enter Try.func9, Try.ntmps9
          go_wp2_with (first | (go_at_call 10; ((with_reducible refine (HS.out _ (by assumption)).mono ?_)); rintro e w1 ⟨rfl, hbw⟩) | (go_at_call 21; ((with_reducible refine (HA.out _ (by assumption)).mono ?_)); rintro e w1 ⟨rfl, hbw⟩) | (go_at_call 21; ((with_reducible refine (HB.out _ (by assumption)).mono ?_)); rintro e w1 ⟨rfl, hbw⟩) | (go_at_call 23; ((with_reducible refine (HC.out _ (by assumption)).mono ?_)); rintro e w1 ⟨rfl, hbw⟩) | (go_at_call 23; ((with_reducible refine (HD.out _ (by assumption)).mono ?_)); rintro e w1 ⟨rfl, hbw⟩) | (go_at_call 21; ((with_reducible refine (HE.out _ (by assumption)).mono ?_)); rintro e w1 ⟨rfl, hbw⟩) | (go_at_call 21; ((with_reducible refine (HF.out _ (by assumption)).mono ?_)); rintro e w1 ⟨rfl, hbw⟩) | (go_at_call 21; ((with_reducible refine (HG.out _ (by assumption)).mono ?_)); rintro e w1 ⟨rfl, hbw⟩))
          go_ret
          exact ⟨rfl, hbw⟩

theorem walk (a0 : Int) (w0 : (Lit.int .u64 a0).wf = true) (a1 : Int) (w1 : (Lit.int .u64 a1).wf = true) (a2 : Int) (w2 : (Lit.int .u64 a2).wf = true) (w : World) :
    Calls Try.prog 9 #[.int .u64 a0, .int .u64 a1, .int .u64 a2] w fun e w' => e = .returned (.bool true) ∧ Below w.heap.size w w' := by
  obtain ⟨a, rfl, ha⟩ := nat_of w0
  obtain ⟨b, rfl, hb⟩ := nat_of w1
  obtain ⟨c, rfl, hc⟩ := nat_of w2
  obtain ⟨x, one, hx⟩ := fits_tuple (a + b)
  obtain ⟨z, three, hz⟩ := fits_tuple (a * b)
  obtain ⟨s, five, hs⟩ := fits_tuple (x + c)
  obtain ⟨t, six, ht⟩ := fits_tuple (b + c)
  obtain ⟨u, seven, hu⟩ := fits_tuple (a + t)
  have hx' := fits_if hx
  have ht' := fits_if ht
  have hz' := fits_if hz
  refine core a b c x z s t u one three five six seven w (by omega) (hx ▸ Lib.hid (relS (Add_any a b) w)) ((Nat.add_comm b a ▸ hx : fits (b + a) = _) ▸ Lib.hid (relS (Add_any b a) w))
    (hz ▸ Lib.hid (relS (Mul_any a b ha hb) w)) ((Nat.mul_comm b a ▸ hz : fits (b * a) = _) ▸ Lib.hid (relS (Mul_any b a hb ha) w))
    (hs ▸ Lib.hid (relS (Add_any x c) w)) (ht ▸ Lib.hid (relS (Add_any b c) w)) (hu ▸ Lib.hid (relS (Add_any a t) w)) ?_ ?_ ?_
  · intro h
    rw [hx' h, IntKind.wrap_u64]
    omega
  · intro h h0
    rw [hz' h, Int.natCast_mul]
    exact Int.mul_ediv_cancel_left _ (by omega)
  · intro h1 h6
    have e : x + c = a + t := by rw [hx' h1, ht' h6]; omega
    rw [e, hu] at hs
    simp only [Value.tuple.injEq, Array.mk.injEq, List.cons.injEq, Value.int.injEq, Value.bool.injEq] at hs
    refine ⟨hs.2.1.symm, ?_⟩
    have := hs.1.2
    omega

set_option maxRecDepth 100000 in
theorem lifted (os : Os) (started : os.Started) (H : Type) (enc : TypeId × Value → H) :
    ReturnsInHanded {} Try.checked os 9 .any (Rows.leLawsSpec.pre6 enc Try.prog Try.f9 Rows.leLawsRow.domain false) (Rows.leLawsSpec.post enc Try.prog Try.f9 false true false false) := by
  refine returnsInHanded_of_change (C := Try.checked) own started (by kernel_rfl) Try.func9
    (ChangeSpec.witness6 (enc := enc) (C := Try.checked) false ⟨#[], #[.int .u64 0, .int .u64 0, .int .u64 0], []⟩ 8 (by kernel_rfl) (by kernel_rfl) (by kernel_rfl) (by kernel_rfl)) ?_
  intro W base args ds gs before hval0 hW _ _
  have hval : ∀ (j : Nat) t v, Try.f9.params[j]? = some t → args[j]? = some v → Value.okWide Try.prog W .any base t v := hval0
  have hW' := hW
  obtain ⟨p, q, hA0, hV, rfl, hfz, hnd⟩ := hW
  have hA : DataW.TrodAll enc Try.prog W 0 (fun _ => true) true Try.f9.params.toList args.toList ds p := hA0
  rw [Try.params9] at hA hval
  obtain ⟨v0, vs0, d0, ds0, p0, q0, hargs, rfl, rfl, h0, r0⟩ := trodAll_cons hA
  obtain ⟨v1, vs1, d1, ds1, p1, q1, rfl, rfl, rfl, h1, r1⟩ := trodAll_cons r0
  obtain ⟨v2, vs2, d2, ds2, p2, q2, rfl, rfl, rfl, h2, r2⟩ := trodAll_cons r1
  obtain ⟨rfl, rfl, rfl⟩ := trodAll_nil r2
  obtain rfl : args = #[v0, v1, v2] := by cases args; simp_all
  obtain ⟨rfl, rfl⟩ := trodVars_none hV
  obtain ⟨a0, rfl, rfl, rfl, w0⟩ := open_int Try.underlying22 (hval 0 22 v0 rfl rfl) h0
  obtain ⟨a1, rfl, rfl, rfl, w1⟩ := open_int Try.underlying22 (hval 1 22 v1 rfl rfl) h1
  obtain ⟨a2, rfl, rfl, rfl, w2⟩ := open_int Try.underlying22 (hval 2 22 v2 rfl rfl) h2
  clear hA0 hval0
  simp only [List.append_nil] at hW'
  refine (walk a0 w0 a1 w1 a2 w2 W).mono fun e W' ⟨he, bel⟩ => ?_
  subst he
  exact ⟨_, rfl, _, _, _, [], _, [], hW', trodAll_mk1 (shut_bool Try.underlying4 _), (trodAll_cons_mk (shut_int Try.underlying22 w0) (trodAll_cons_mk (shut_int Try.underlying22 w1) (trodAll_cons_mk (shut_int Try.underlying22 w2) trodAll_mk0))), rfl, bel.frame _, fun h => by cases h⟩

theorem holds : Rows.LeLawsSaid :=
  OpenClaim.holds_of_wide 9 Try.f9 rfl rfl rfl rfl rfl rfl rfl ⟨rfl, rfl, rfl, rfl, rfl⟩ rfl rfl rfl rfl rfl (by kernel_rfl) Try.func9 (by kernel_rfl)
    (of_decide_eq_true (by kernel_rfl)) (by unfold Func.isWrapper; first | (rw [if_pos (by decide +kernel)]; kernel_rfl) | (rw [if_neg (by decide +kernel)]; exact ⟨rfl, rfl⟩))
    (fun os started H enc _ => lifted os started H enc)

end Go.Proofs.Ytodidacblnhmgaa.leLaws
