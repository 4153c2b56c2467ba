/-
  LeParts: for every input the law answers true: the bytes of a number are those of what is below and of what is above; what a text says hangs on its first eight bytes. Conditions: none.
-/
import Derived.Test.YtodidacblnhmgaaLeLaw
import Derived.SizedLaws
import Derived.BigQuiet
import Derived.Deep.QuietTactic
import Derived.Deep.RegionWith
namespace Go.Proofs.Ytodidacblnhmgaa.leParts
open Go.ChangeShapes Go.WideShapes Go.ChangeAt Go.RowKit
open Go.ChangeMaps (open_string shut_string)

theorem pow_parts (q m : Nat) (h : m = 4 * q) : 2 ^ m * 2 ^ m = 256 ^ q := by
  rw [h, Nat.pow_mul, ← Nat.mul_pow]

theorem pow_cast (m : Nat) : ((2 ^ m : Nat) : Int) = 2 ^ m := Int.natCast_pow 2 m

theorem parts_num (n d : Nat) (hn : n < 18446744073709551616) : IntKind.u64.wrap ((n : Int) - IntKind.u64.wrap (IntKind.u64.wrap ((n : Int) / (d : Int) / (d : Int) * (d : Int)) * (d : Int))) = ((n % (d * d) : Nat) : Int) := by
  have h1 : (n : Int) / (d : Int) / (d : Int) * (d : Int) = ((n / d / d * d : Nat) : Int) := by simp
  have h2 : n / d / d * d ≤ n / d := Nat.div_mul_le_self _ _
  have h3 : n / d ≤ n := Nat.div_le_self _ _
  have h4 : n / d / d * d * d ≤ n := Nat.le_trans (Nat.mul_le_mul_right d h2) (Nat.div_mul_le_self _ _)
  have h5 : n / d / d * d * d + n % (d * d) = n := by
    rw [Nat.div_div_eq_div_mul, Nat.mul_assoc]
    exact Nat.div_add_mod' n (d * d)
  rw [h1, IntKind.wrap_u64, IntKind.wrap_u64, IntKind.wrap_u64]
  have h6 : ((n / d / d * d : Nat) : Int) % 18446744073709551616 = ((n / d / d * d : Nat) : Int) := by omega
  rw [h6, ← Int.natCast_mul]
  omega

set_option maxHeartbeats 2000000 in
theorem coreA (n : Nat) (P s : ByteArray) (m g : Int) (w : World)
    (HP : Hid (∀ w1, Below w.heap.size w w1 → Calls Try.prog 11 #[.int .u64 n, .int .i64 8] w1 fun e w' => e = .returned (.string P) ∧ Below w.heap.size w w'))
    (HQ : Hid (∀ w1, Below w.heap.size w w1 → Calls Try.prog 11 #[.int .u64 n, .int .i64 m] w1 fun e w' => e = .returned (.string (P.extract 0 m.toNat)) ∧ Below w.heap.size w w'))
    (HG : Hid (∀ w1, Below w.heap.size w w1 → Calls Try.prog 13 #[.string P] w1 fun e w' => e = .returned (.int .u64 n) ∧ Below w.heap.size w w'))
    (HH : Hid (∀ w1, Below w.heap.size w w1 → Calls Try.prog 13 #[.string (P ++ s)] w1 fun e w' => e = .returned (.int .u64 n) ∧ Below w.heap.size w w'))
    (HI : Hid (∀ w1, Below w.heap.size w w1 → Calls Try.prog 13 #[.string (P.extract 0 m.toNat)] w1 fun e w' => e = .returned (.int .u64 g) ∧ Below w.heap.size w w'))
    (h1 : 0 < m) (h2 : m ≤ 8) (h3 : P.size = 8) (h6 : (9223372036854775807 < 8 + s.size) = False)
    (e0 : IntKind.i64.wrap (4 * m) = 4 * m) (HE : Hid (IntKind.u64.wrap ((n : Int) - IntKind.u64.wrap (IntKind.u64.wrap ((n : Int) / 2 ^ (4 * m).toNat / 2 ^ (4 * m).toNat * 2 ^ (4 * m).toNat) * 2 ^ (4 * m).toNat)) = g)) :
    Calls Try.prog 8 #[.int .u64 n, .int .i64 m, .string s] w fun e w' => e = .returned (.bool true) ∧ Below w.heap.size w w' := by
  have HS := Lib.hid (rel shown_any w)
  have hbw := Below.refl w.heap.size w
  have h5 : m ≤ P.size := by omega
  have h7 : 0 ≤ m := by omega
  go_enter Try.func8, Try.ntmps8
  go_wp2_with (first | (go_at_call 10; ((with_reducible refine (HS.out _ (by assumption)).mono ?_)); rintro e w1 ⟨rfl, hbw⟩) | (go_at_call 11; ((with_reducible refine (HP.out _ (by assumption)).mono ?_)); rintro e w1 ⟨rfl, hbw⟩))
  refine wp_region_below hbw (by kernel_rfl) (by kernel_rfl) ?_
  repeat (
    refine wpQuiet_step (fun K hK => ?_)
    go_simp
    first
    | (with_reducible refine hK _ ?_; clear hK K)
    | (with_reducible refine ⟨_, fun _ _ => rfl, hK _ ?_⟩; clear hK K)
    | (with_reducible refine ⟨_, fun w2 hb2 => HQ.out w2 hb2, hK _ ?_⟩; clear hK K)
    | (with_reducible refine ⟨_, fun w2 hb2 => HG.out w2 hb2, hK _ ?_⟩; clear hK K)
    | (with_reducible refine ⟨_, fun w2 hb2 => HH.out w2 hb2, hK _ ?_⟩; clear hK K)
    | (with_reducible refine ⟨_, fun w2 hb2 => HI.out w2 hb2, hK _ ?_⟩; clear hK K))
  refine wpQuiet_nil ?_
  intro w2 hb2
  go_wp2
  go_ret
  rw [HE.out, beq_self_eq_true]
  exact ⟨rfl, hb2⟩

set_option maxHeartbeats 2000000 in
theorem coreB (n : Nat) (P s : ByteArray) (m g : Int) (w : World)
    (HP : Hid (∀ w1, Below w.heap.size w w1 → Calls Try.prog 11 #[.int .u64 n, .int .i64 8] w1 fun e w' => e = .returned (.string P) ∧ Below w.heap.size w w'))
    (HQ : Hid (∀ w1, Below w.heap.size w w1 → Calls Try.prog 11 #[.int .u64 n, .int .i64 m] w1 fun e w' => e = .returned (.string (ByteArray.empty)) ∧ Below w.heap.size w w'))
    (HG : Hid (∀ w1, Below w.heap.size w w1 → Calls Try.prog 13 #[.string P] w1 fun e w' => e = .returned (.int .u64 n) ∧ Below w.heap.size w w'))
    (HH : Hid (∀ w1, Below w.heap.size w w1 → Calls Try.prog 13 #[.string (P ++ s)] w1 fun e w' => e = .returned (.int .u64 n) ∧ Below w.heap.size w w'))
    (HI : Hid (∀ w1, Below w.heap.size w w1 → Calls Try.prog 13 #[.string (ByteArray.empty)] w1 fun e w' => e = .returned (.int .u64 g) ∧ Below w.heap.size w w'))
    (h1 : m ≤ 0) (h3 : P.size = 8) (h6 : (9223372036854775807 < 8 + s.size) = False)
    (e5 : g = 0) :
    Calls Try.prog 8 #[.int .u64 n, .int .i64 m, .string s] w fun e w' => e = .returned (.bool true) ∧ Below w.heap.size w w' := by
  have HS := Lib.hid (rel shown_any w)
  have hbw := Below.refl w.heap.size w
  have h2 : m ≤ 8 := by omega
  have h7 : ¬ 0 < m := by omega
  have e0 : IntKind.i64.wrap 0 = 0 := by decide
  have HE : Hid (IntKind.u64.wrap ((n : Int) - IntKind.u64.wrap (IntKind.u64.wrap (n : Int))) = 0) := by rw [Hid, IntKind.wrap_u64, IntKind.wrap_u64, IntKind.wrap_u64]; omega
  subst e5
  go_enter Try.func8, Try.ntmps8
  go_wp2_with (first | (go_at_call 10; ((with_reducible refine (HS.out _ (by assumption)).mono ?_)); rintro e w1 ⟨rfl, hbw⟩) | (go_at_call 11; ((with_reducible refine (HP.out _ (by assumption)).mono ?_)); rintro e w1 ⟨rfl, hbw⟩))
  refine wp_region_below hbw (by kernel_rfl) (by kernel_rfl) ?_
  repeat (
    refine wpQuiet_step (fun K hK => ?_)
    go_simp
    first
    | (with_reducible refine hK _ ?_; clear hK K)
    | (with_reducible refine ⟨_, fun _ _ => rfl, hK _ ?_⟩; clear hK K)
    | (with_reducible refine ⟨_, fun w2 hb2 => HQ.out w2 hb2, hK _ ?_⟩; clear hK K)
    | (with_reducible refine ⟨_, fun w2 hb2 => HG.out w2 hb2, hK _ ?_⟩; clear hK K)
    | (with_reducible refine ⟨_, fun w2 hb2 => HH.out w2 hb2, hK _ ?_⟩; clear hK K)
    | (with_reducible refine ⟨_, fun w2 hb2 => HI.out w2 hb2, hK _ ?_⟩; clear hK K))
  refine wpQuiet_nil ?_
  intro w2 hb2
  go_wp2
  go_ret
  rw [HE.out, beq_self_eq_true]
  exact ⟨rfl, hb2⟩

set_option maxHeartbeats 2000000 in
theorem coreC (n : Nat) (P s : ByteArray) (m g : Int) (w : World)
    (HP : Hid (∀ w1, Below w.heap.size w w1 → Calls Try.prog 11 #[.int .u64 n, .int .i64 8] w1 fun e w' => e = .returned (.string P) ∧ Below w.heap.size w w'))
    (HQ : Hid (∀ w1, Below w.heap.size w w1 → Calls Try.prog 11 #[.int .u64 n, .int .i64 m] w1 fun e w' => e = .returned (.string (P)) ∧ Below w.heap.size w w'))
    (HG : Hid (∀ w1, Below w.heap.size w w1 → Calls Try.prog 13 #[.string P] w1 fun e w' => e = .returned (.int .u64 n) ∧ Below w.heap.size w w'))
    (HH : Hid (∀ w1, Below w.heap.size w w1 → Calls Try.prog 13 #[.string (P ++ s)] w1 fun e w' => e = .returned (.int .u64 n) ∧ Below w.heap.size w w'))
    (HI : Hid (∀ w1, Below w.heap.size w w1 → Calls Try.prog 13 #[.string (P)] w1 fun e w' => e = .returned (.int .u64 g) ∧ Below w.heap.size w w'))
    (h1 : 8 < m) (h3 : P.size = 8) (h6 : (9223372036854775807 < 8 + s.size) = False)
    (hn : n < 18446744073709551616) (e5 : g = (n : Int)) :
    Calls Try.prog 8 #[.int .u64 n, .int .i64 m, .string s] w fun e w' => e = .returned (.bool true) ∧ Below w.heap.size w w' := by
  have HS := Lib.hid (rel shown_any w)
  have hbw := Below.refl w.heap.size w
  have h2 : ¬ m ≤ 8 := by omega
  have e0 : IntKind.i64.wrap 32 = 32 := by decide
  have HE : Hid (IntKind.u64.wrap ((n : Int) - IntKind.u64.wrap (IntKind.u64.wrap ((n : Int) / 4294967296 / 4294967296 * 4294967296) * 4294967296)) = (n : Int)) := by rw [Hid, IntKind.wrap_u64, IntKind.wrap_u64, IntKind.wrap_u64]; omega
  clear hn
  have ex : P.extract 0 8 = P := by rw [← h3]; exact extract_all P
  subst e5
  go_enter Try.func8, Try.ntmps8
  go_wp2_with (first | (go_at_call 10; ((with_reducible refine (HS.out _ (by assumption)).mono ?_)); rintro e w1 ⟨rfl, hbw⟩) | (go_at_call 11; ((with_reducible refine (HP.out _ (by assumption)).mono ?_)); rintro e w1 ⟨rfl, hbw⟩))
  refine wp_region_below hbw (by kernel_rfl) (by kernel_rfl) ?_
  repeat (
    refine wpQuiet_step (fun K hK => ?_)
    go_simp
    first
    | (with_reducible refine hK _ ?_; clear hK K)
    | (with_reducible refine ⟨_, fun _ _ => rfl, hK _ ?_⟩; clear hK K)
    | (with_reducible refine ⟨_, fun w2 hb2 => HQ.out w2 hb2, hK _ ?_⟩; clear hK K)
    | (with_reducible refine ⟨_, fun w2 hb2 => HG.out w2 hb2, hK _ ?_⟩; clear hK K)
    | (with_reducible refine ⟨_, fun w2 hb2 => HH.out w2 hb2, hK _ ?_⟩; clear hK K)
    | (with_reducible refine ⟨_, fun w2 hb2 => HI.out w2 hb2, hK _ ?_⟩; clear hK K))
  refine wpQuiet_nil ?_
  intro w2 hb2
  go_wp2
  go_ret
  rw [HE.out, beq_self_eq_true]
  exact ⟨rfl, hb2⟩

set_option maxHeartbeats 1000000 in
theorem walk (a0 : Int) (w0 : (Lit.int .u64 a0).wf = true) (a1 : Int) (_ : (Lit.int .i64 a1).wf = true) (a2 : ByteArray) (w2 : a2.size ≤ 140737488351232) (w : World) :
    Calls Try.prog 8 #[.int .u64 a0, .int .i64 a1, .string a2] w fun e w' => e = .returned (.bool true) ∧ Below w.heap.size w w' := by
  obtain ⟨n, rfl, hn⟩ := nat_of w0
  have hl := Rc2.put_length 8 n
  have hz : (ByteArray.mk (Rc2.put 8 n).toArray).size = 8 := hl
  have hG : ∀ t : ByteArray, t.size ≤ 140737488351240 → t.size ≤ maxLen := fun t h => Nat.le_trans h (by decide)
  have HP := Lib.hid (rel (Put_any n hn 8) w)
  rw [show (max 0 (min (8 : Int) 8)).toNat = 8 from rfl] at HP
  have HG := Lib.hid (relS (Get_any ⟨(Rc2.put 8 n).toArray⟩ (hG _ (by omega))) w)
  have HH := Lib.hid (relS (Get_any (⟨(Rc2.put 8 n).toArray⟩ ++ a2) (hG _ (by rw [ByteArray.size_append]; omega))) w)
  have e1 : Rc2.get (ByteArray.mk (Rc2.put 8 n).toArray).data.toList = n := by
    have := Rc2.get_put_append n hn []
    simpa using this
  have e2 : Rc2.get (ByteArray.mk (Rc2.put 8 n).toArray ++ a2).data.toList = n := by
    have := Rc2.get_put_append n hn a2.data.toList
    simpa [ByteArray.data_append] using this
  rw [e1] at HG
  rw [e2] at HH
  have h6 : (9223372036854775807 < 8 + a2.size) = False := eq_false (by omega)
  have hext : ∀ q, q ≤ 8 → ByteArray.mk (Rc2.put q n).toArray = (ByteArray.mk (Rc2.put 8 n).toArray).extract 0 q := by
    intro q hq
    rw [extract_take, ← Rc2.put_take q 8 n hq]
  by_cases h1 : a1 ≤ 0
  · refine coreB n _ a2 a1 0 w HP ?_ HG HH ?_ h1 hz h6 rfl
    · have := rel (Put_any n hn a1) w
      rw [show (max 0 (min a1 8)).toNat = 0 by omega] at this
      exact this
    · exact relS (Get_any ByteArray.empty (by decide)) w
  · by_cases h2 : a1 ≤ 8
    · refine coreA n _ a2 a1 ((n % 256 ^ a1.toNat : Nat) : Int) w HP ?_ HG HH ?_ (by omega) h2 hz h6 ?_ ?_
      · have := rel (Put_any n hn a1) w
        rw [show (max 0 (min a1 8)).toNat = a1.toNat by omega, hext a1.toNat (by omega)] at this
        exact this
      · have := relS (Get_any ((ByteArray.mk (Rc2.put 8 n).toArray).extract 0 a1.toNat) (hG _ (Nat.le_trans (extract_size _ _ _) (by omega)))) w
        rw [← hext a1.toNat (by omega)] at this ⊢
        rw [show (ByteArray.mk (Rc2.put a1.toNat n).toArray).data.toList = Rc2.put a1.toNat n by simp, Rc2.get_put _ _ (by omega)] at this
        exact this
      · rw [IntKind.wrap_i64]
        omega
      · have h := parts_num n (2 ^ (4 * a1).toNat) hn
        rw [pow_parts a1.toNat (4 * a1).toNat (by omega), pow_cast] at h
        exact h
    · refine coreC n _ a2 a1 (n : Int) w HP ?_ HG HH HG (by omega) hz h6 hn rfl
      have := rel (Put_any n hn a1) w
      rw [show (max 0 (min a1 8)).toNat = 8 by omega] at this
      exact this

set_option maxRecDepth 100000 in
theorem lifted (os : Os) (started : os.Started) (H : Type) (enc : TypeId × Value → H) :
    ReturnsInHanded {} Try.checked os 8 .any (Rows.lePartsSpec.pre6 enc Try.prog Try.f8 Rows.lePartsRow.domain false) (Rows.lePartsSpec.post enc Try.prog Try.f8 false true false false) := by
  refine returnsInHanded_of_change_sized (C := Try.checked) own started (by kernel_rfl) Try.func8
    (ChangeSpec.witness6 (enc := enc) (C := Try.checked) false ⟨#[], #[.int .u64 0, .int .i64 0, .string ByteArray.empty], []⟩ 8 (by kernel_rfl) (by kernel_rfl) (by kernel_rfl) (by kernel_rfl)) ?_
  intro W base args ds gs before hval0 hW _ hsz0 _
  have hsz : (DataW.weightsEach Try.prog (Try.f8.params.toList ++ Rows.lePartsSpec.plain.varTypes Try.prog) (ds ++ gs)).all (· ≤ reachBytes) = true := hsz0
  have hval : ∀ (j : Nat) t v, Try.f8.params[j]? = some t → args[j]? = some v → Value.okWide Try.prog W .any base t v := hval0
  have hW' := hW
  obtain ⟨p, q, hA0, hV, rfl, hfz, hnd⟩ := hW
  have hA : DataW.TrodAll enc Try.prog W 0 (fun _ => true) true Try.f8.params.toList args.toList ds p := hA0
  rw [Try.params8] at hA hval hsz
  obtain ⟨v0, vs0, d0, ds0, p0, q0, hargs, rfl, rfl, h0, r0⟩ := trodAll_cons hA
  obtain ⟨v1, vs1, d1, ds1, p1, q1, rfl, rfl, rfl, h1, r1⟩ := trodAll_cons r0
  obtain ⟨v2, vs2, d2, ds2, p2, q2, rfl, rfl, rfl, h2, r2⟩ := trodAll_cons r1
  obtain ⟨rfl, rfl, rfl⟩ := trodAll_nil r2
  obtain rfl : args = #[v0, v1, v2] := by cases args; simp_all
  obtain ⟨rfl, rfl⟩ := trodVars_none hV
  obtain ⟨a0, rfl, rfl, rfl, w0⟩ := open_int Try.underlying22 (hval 0 22 v0 rfl rfl) h0
  obtain ⟨a1, rfl, rfl, rfl, w1⟩ := open_int Try.underlying3 (hval 1 3 v1 rfl rfl) h1
  obtain ⟨a2, rfl, rfl, rfl, w2⟩ := open_string Try.underlying9 (hval 2 9 v2 rfl rfl) h2
  clear hA0 hval0
  simp only [List.append_nil] at hW'
  refine (walk a0 w0 a1 w1 a2 (by have h := sized_string hsz (j := 2) (t := 9) rfl rfl; simp only [reachBytes, Array.length_toList] at h; exact h) W).mono fun e W' ⟨he, bel⟩ => ?_
  subst he
  exact ⟨_, rfl, _, _, _, [], _, [], hW', trodAll_mk1 (shut_bool Try.underlying4 _), (trodAll_cons_mk (shut_int Try.underlying22 w0) (trodAll_cons_mk (shut_int Try.underlying3 w1) (trodAll_cons_mk (shut_string Try.underlying9 w2) trodAll_mk0))), rfl, bel.frame _, fun h => by cases h⟩

theorem holds : Rows.LePartsSaid :=
  OpenClaim.holds_of_wide 8 Try.f8 rfl rfl rfl rfl rfl rfl rfl ⟨rfl, rfl, rfl, rfl, rfl⟩ rfl rfl rfl rfl rfl (by kernel_rfl) Try.func8 (by kernel_rfl)
    (of_decide_eq_true (by kernel_rfl)) (by unfold Func.isWrapper; first | (rw [if_pos (by decide +kernel)]; kernel_rfl) | (rw [if_neg (by decide +kernel)]; exact ⟨rfl, rfl⟩))
    (fun os started H enc _ => lifted os started H enc)

end Go.Proofs.Ytodidacblnhmgaa.leParts
