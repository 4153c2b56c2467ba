/-
  SealSteps: for every input the law answers true: a byte more turns the sum by what its last eight bits and that byte say. Conditions: none.
-/
import Derived.Test.YtaldjafpbponbaaSeLaw
import Derived.Test.YtaldjafpbponbaaSeBytes
namespace Go.Proofs.Ytaldjafpbponbaa.sealSteps
open Go.ChangeShapes Go.WideShapes Go.ChangeAt Go.RowKit
open Go.ChangeMaps (open_string shut_string)

set_option maxHeartbeats 2000000 in
theorem walkShort (s : ByteArray) (hs : s.size ≤ 2000) (c : Nat) (hc : c < 256) (w : World) :
    Calls Try.prog 8 #[.string s, .int .u8 (c : Int)] w fun e w' => e = .returned (.bool true) ∧ Below w.heap.size w w' := by
  have HH := Lib.hid (rel shown_any w)
  have HS := Lib.hid (rel (Sum_any s (by unfold maxLen; omega)) w)
  have HS2 := Lib.hid (rel (Sum_any (s ++ ⟨#[UInt8.ofNat c]⟩) (by unfold maxLen; rw [ByteArray.size_append]; have : (ByteArray.mk #[UInt8.ofNat c]).size = 1 := rfl; omega)) w)
  have hbw := Below.refl w.heap.size w
  have hs' : ¬ (2000 : Int) < s.size := by omega
  have hcl := Rc3.crc_lt s.data.toList
  have HE : Hid (Rc3.crc (s ++ ⟨#[UInt8.ofNat c]⟩).data.toList = Rc3.it 8 (Rc3.crc s.data.toList ^^^ 4294967295 ^^^ c) ^^^ 4294967295) := by
    have := Rc3.crc_snoc s.data.toList (UInt8.ofNat c)
    rw [show (UInt8.ofNat c).toNat = c by rw [UInt8.toNat_ofNat']; omega] at this
    rw [list_append]
    exact this
  generalize Rc3.crc (s ++ ⟨#[UInt8.ofNat c]⟩).data.toList = d at HS2 HE
  generalize Rc3.crc s.data.toList = a at HS HE hcl
  have hx1 : bits BinOp.xor IntKind.u32 (a : Int) 4294967295 = ((a ^^^ 4294967295 : Nat) : Int) := u32_xor_nat a 4294967295 hcl (by decide)
  have hx2 : bits BinOp.xor IntKind.u32 ((a ^^^ 4294967295 : Nat) : Int) (c : Int) = ((a ^^^ 4294967295 ^^^ c : Nat) : Int) := u32_xor_nat _ c (Nat.xor_lt_two_pow (n := 32) hcl (by decide)) (by omega)
  have HL := Lib.hid (Nat.xor_lt_two_pow (n := 32) (Nat.xor_lt_two_pow (n := 32) hcl (show 4294967295 < 2 ^ 32 by decide)) (show c < 2 ^ 32 by omega))
  generalize a ^^^ 4294967295 ^^^ c = x at HE hx2 HL
  clear hs hcl
  go_enter Try.func8, Try.ntmps8
  go_wp2_with (first | (go_at_call 9; ((with_reducible refine (HH.out _ (by first | assumption | exact ba (by assumption) _)).mono ?_)); rintro e w1 ⟨rfl, hbw⟩) | (go_at_call 12; ((with_reducible refine (HS.out _ (by first | assumption | exact ba (by assumption) _)).mono ?_)); rintro e w1 ⟨rfl, hbw⟩) | (go_at_call 12; ((with_reducible refine (HS2.out _ (by first | assumption | exact ba (by assumption) _)).mono ?_)); rintro e w1 ⟨rfl, hbw⟩))
  go_loop [6, 7] (fun r i => ∃ k y : Nat, k ≤ 8 ∧ Hid (y = Rc3.it k x ∧ y < 4294967296) ∧ r = .int .u32 (y : Int) ∧ i = .int .i64 k) (fun _ i => (8 - intOf i).toNat)
  case atStart => exact ⟨0, x, by omega, ⟨rfl, HL.out⟩, rfl, rfl⟩
  case round =>
    obtain ⟨k, y, hk, hy, rfl, rfl⟩ := hrel
    by_cases hlt : k < 8
    · have ha := and1 y hy.out.2
      rcases Nat.mod_two_eq_zero_or_one y with hm | hm <;> rw [hm] at ha
      · have HM := Lib.hid hm
        clear hm
        go_wp2
        go_round
        case rel => exact ⟨k + 1, y / 2, by omega, ⟨by rw [it_snoc, ← hy.out.1]; unfold Rc3.s0; rw [if_neg (by have := HM.out; omega)], by have := hy.out; omega⟩, by go_num, by go_num⟩
        case measure => simp [intOf]; omega
      · have HM := Lib.hid hm
        clear hm
        have hq : bits BinOp.xor IntKind.u32 ((y : Int) / 2) 3988292384 = ((y / 2 ^^^ 3988292384 : Nat) : Int) := xorP (y / 2) (by have := hy.out; omega)
        go_wp2
        go_round
        case rel => exact ⟨k + 1, y / 2 ^^^ 3988292384, by omega, ⟨by rw [it_snoc, ← hy.out.1]; unfold Rc3.s0; rw [if_pos HM.out], Nat.xor_lt_two_pow (n := 32) (by have := hy.out; omega) (by decide)⟩, by go_num, by go_num⟩
        case measure => simp [intOf]; omega
    · obtain rfl : k = 8 := by omega
      have hcv := back_one w1 c hc
      have hba := hbw.alloc hbw.size (.cells #[.int .u8 (c : Int)] 5 (0, 0))
      have hx3 : bits BinOp.xor IntKind.u32 (y : Int) 4294967295 = (d : Int) := by
        rw [HE.out, ← hy.out.1]
        exact u32_xor_nat y 4294967295 hy.out.2 (by decide)
      have hz : (ByteArray.mk #[UInt8.ofNat c]).size = 1 := rfl
      have hadd : (9223372036854775807 < s.size + 1) = False := eq_false (by omega)
      generalize ByteArray.mk #[UInt8.ofNat c] = P at hcv HS2 hz
      go_wp2_with (go_at_call 12; ((with_reducible refine (HS2.out _ (by first | assumption | exact ba (by assumption) _)).mono ?_)); rintro e w1 ⟨rfl, hbw⟩)
      go_ret
      exact ⟨rfl, hbw⟩

set_option maxHeartbeats 1000000 in
theorem walkLong (s : ByteArray) (h : 2000 < s.size) (c : Int) (w : World) :
    Calls Try.prog 8 #[.string s, .int .u8 c] w fun e w' => e = .returned (.bool true) ∧ Below w.heap.size w w' := by
  have HH := Lib.hid (rel shown_any w)
  have hbw := Below.refl w.heap.size w
  have hs' : (2000 : Int) < s.size := by omega
  clear h
  go_enter Try.func8, Try.ntmps8
  go_wp2_with (go_at_call 9; ((with_reducible refine (HH.out _ (by first | assumption | exact ba (by assumption) _)).mono ?_)); rintro e w1 ⟨rfl, hbw⟩)
  go_ret
  exact ⟨rfl, hbw⟩

theorem walk (a0 : ByteArray) (_ : a0.size ≤ maxLen) (a1 : Int) (w1 : (Lit.int .u8 a1).wf = true) (w : World) :
    Calls Try.prog 8 #[.string a0, .int .u8 a1] w fun e w' => e = .returned (.bool true) ∧ Below w.heap.size w w' := by
  by_cases h1 : a0.size ≤ 2000
  · obtain ⟨c, rfl, hc⟩ := nat_of8 w1
    exact walkShort a0 h1 c hc w
  · exact walkLong a0 (by omega) a1 w

set_option maxRecDepth 100000 in
theorem lifted (os : Os) (started : os.Started) (H : Type) (enc : TypeId × Value → H) :
    ReturnsInHanded {} Try.checked os 8 .any (Rows.sealStepsSpec.pre6 enc Try.prog Try.f8 Rows.sealStepsRow.domain false) (Rows.sealStepsSpec.post enc Try.prog Try.f8 false true false false) := by
  refine returnsInHanded_of_change (C := Try.checked) own started (by kernel_rfl) Try.func8
    (ChangeSpec.witness6 (enc := enc) (C := Try.checked) false ⟨#[], #[.string ByteArray.empty, .int .u8 0], []⟩ 8 (by kernel_rfl) (by kernel_rfl) (by kernel_rfl) (by kernel_rfl)) ?_
  intro W base args ds gs before hval0 hW _ _
  have hval : ∀ (j : Nat) t v, Try.f8.params[j]? = some t → args[j]? = some v → Value.okWide Try.prog W .any base t v := hval0
  have hW' := hW
  obtain ⟨p, q, hA0, hV, rfl, hfz, hnd⟩ := hW
  have hA : DataW.TrodAll enc Try.prog W 0 (fun _ => true) true Try.f8.params.toList args.toList ds p := hA0
  rw [Try.params8] at hA hval
  obtain ⟨v0, vs0, d0, ds0, p0, q0, hargs, rfl, rfl, h0, r0⟩ := trodAll_cons hA
  obtain ⟨v1, vs1, d1, ds1, p1, q1, rfl, rfl, rfl, h1, r1⟩ := trodAll_cons r0
  obtain ⟨rfl, rfl, rfl⟩ := trodAll_nil r1
  obtain rfl : args = #[v0, v1] := by cases args; simp_all
  obtain ⟨rfl, rfl⟩ := trodVars_none hV
  obtain ⟨a0, rfl, rfl, rfl, w0⟩ := open_string Try.underlying9 (hval 0 9 v0 rfl rfl) h0
  obtain ⟨a1, rfl, rfl, rfl, w1⟩ := open_int Try.underlying5 (hval 1 5 v1 rfl rfl) h1
  clear hA0 hval0
  simp only [List.append_nil] at hW'
  refine (walk a0 w0 a1 w1 W).mono fun e W' ⟨he, bel⟩ => ?_
  subst he
  exact ⟨_, rfl, _, _, _, [], _, [], hW', trodAll_mk1 (shut_bool Try.underlying4 _), (trodAll_cons_mk (shut_string Try.underlying9 w0) (trodAll_cons_mk (shut_int Try.underlying5 w1) trodAll_mk0)), rfl, bel.frame _, fun h => by cases h⟩

theorem holds : Rows.SealStepsSaid :=
  OpenClaim.holds_of_wide 8 Try.f8 rfl rfl rfl rfl rfl rfl rfl ⟨rfl, rfl, rfl, rfl, rfl⟩ rfl rfl rfl rfl rfl (by kernel_rfl) Try.func8 (by kernel_rfl)
    (of_decide_eq_true (by kernel_rfl)) (by unfold Func.isWrapper; first | (rw [if_pos (by decide +kernel)]; kernel_rfl) | (rw [if_neg (by decide +kernel)]; exact ⟨rfl, rfl⟩))
    (fun os started H enc _ => lifted os started H enc)

end Go.Proofs.Ytaldjafpbponbaa.sealSteps
