/-
  SealBack: for every input the law answers true: what was put is taken off again; three bytes are too short. Conditions: none.
-/
import Derived.Test.YtaldjafpbponbaaSeLaw
namespace Go.Proofs.Ytaldjafpbponbaa.sealBack
open Go.ChangeShapes Go.WideShapes Go.ChangeAt Go.RowKit
open Go.ChangeMaps (open_string shut_string)

set_option maxHeartbeats 2000000 in
theorem walkShort (s : ByteArray) (hs : s.size ≤ 2000) (w : World) :
    Calls Try.prog 4 #[.string s] w fun e w' => e = .returned (.bool true) ∧ Below w.heap.size w w' := by
  have hz := sealed_size s
  have HH := Lib.hid (rel shown_any w)
  have HT := Lib.hid (rel (Take_sealed s (by unfold maxLen; omega)) w)
  have HTS := Lib.hid (rel (Take_short ((sealedB s).extract 0 3) (by rw [ByteArray.size_extract]; omega)) w)
  have HP := Lib.hid (rel (Put_seal s (by unfold maxLen; omega)) w)
  have HE := Lib.hid (rel (Equal_any s s (by unfold maxLen; omega) (by unfold maxLen; omega)) w)
  have hbw := Below.refl w.heap.size w
  have hs' : ¬ (2000 : Int) < s.size := by omega
  generalize sealedB s = P at HP HT HTS hz
  generalize Rc3.crc s.data.toList = a at HE
  have h3 : (3 : Int) ≤ P.size := by omega
  have h4 : (P.size : Int) = s.size + 4 := by omega
  clear hz
  go_enter Try.func4, Try.ntmps4
  go_wp2_with (first | (go_at_call 9; ((with_reducible refine (HH.out _ (by first | assumption | exact ba (by assumption) _)).mono ?_)); rintro e w1 ⟨rfl, hbw⟩) | (go_at_call 10; ((with_reducible refine (HT.out _ (by first | assumption | exact ba (by assumption) _)).mono ?_)); rintro e w1 ⟨rfl, hbw⟩) | (go_at_call 10; ((with_reducible refine (HTS.out _ (by first | assumption | exact ba (by assumption) _)).mono ?_)); rintro e w1 ⟨rfl, hbw⟩) | (go_at_call 14; ((with_reducible refine (HP.out _ (by first | assumption | exact ba (by assumption) _)).mono ?_)); rintro e w1 ⟨rfl, hbw⟩) | (go_at_call 16; ((with_reducible refine (HE.out _ (by first | assumption | exact ba (by assumption) _)).mono ?_)); rintro e w1 ⟨rfl, hbw⟩))
  go_ret
  exact ⟨rfl, hbw⟩

set_option maxHeartbeats 1000000 in
theorem walkLong (s : ByteArray) (h : 2000 < s.size) (w : World) :
    Calls Try.prog 4 #[.string s] w fun e w' => e = .returned (.bool true) ∧ Below w.heap.size w w' := by
  have HH := Lib.hid (rel shown_any w)
  have hbw := Below.refl w.heap.size w
  have hs' : (2000 : Int) < s.size := by omega
  clear h
  go_enter Try.func4, Try.ntmps4
  go_wp2_with (go_at_call 9; ((with_reducible refine (HH.out _ (by first | assumption | exact ba (by assumption) _)).mono ?_)); rintro e w1 ⟨rfl, hbw⟩)
  go_ret
  exact ⟨rfl, hbw⟩

theorem walk (a0 : ByteArray) (_ : a0.size ≤ maxLen) (w : World) :
    Calls Try.prog 4 #[.string a0] w fun e w' => e = .returned (.bool true) ∧ Below w.heap.size w w' := by
  by_cases h1 : a0.size ≤ 2000
  · exact walkShort a0 h1 w
  · exact walkLong a0 (by omega) w

set_option maxRecDepth 100000 in
theorem lifted (os : Os) (started : os.Started) (H : Type) (enc : TypeId × Value → H) :
    ReturnsInHanded {} Try.checked os 4 .any (Rows.sealBackSpec.pre6 enc Try.prog Try.f4 Rows.sealBackRow.domain false) (Rows.sealBackSpec.post enc Try.prog Try.f4 false true false false) := by
  refine returnsInHanded_of_change (C := Try.checked) own started (by kernel_rfl) Try.func4
    (ChangeSpec.witness6 (enc := enc) (C := Try.checked) false ⟨#[], #[.string ByteArray.empty], []⟩ 8 (by kernel_rfl) (by kernel_rfl) (by kernel_rfl) (by kernel_rfl)) ?_
  intro W base args ds gs before hval0 hW _ _
  have hval : ∀ (j : Nat) t v, Try.f4.params[j]? = some t → args[j]? = some v → Value.okWide Try.prog W .any base t v := hval0
  have hW' := hW
  obtain ⟨p, q, hA0, hV, rfl, hfz, hnd⟩ := hW
  have hA : DataW.TrodAll enc Try.prog W 0 (fun _ => true) true Try.f4.params.toList args.toList ds p := hA0
  rw [Try.params4] at hA hval
  obtain ⟨v0, vs0, d0, ds0, p0, q0, hargs, rfl, rfl, h0, r0⟩ := trodAll_cons hA
  obtain ⟨rfl, rfl, rfl⟩ := trodAll_nil r0
  obtain rfl : args = #[v0] := by cases args; simp_all
  obtain ⟨rfl, rfl⟩ := trodVars_none hV
  obtain ⟨a0, rfl, rfl, rfl, w0⟩ := open_string Try.underlying9 (hval 0 9 v0 rfl rfl) h0
  clear hA0 hval0
  simp only [List.append_nil] at hW'
  refine (walk a0 w0 W).mono fun e W' ⟨he, bel⟩ => ?_
  subst he
  exact ⟨_, rfl, _, _, _, [], _, [], hW', trodAll_mk1 (shut_bool Try.underlying4 _), (trodAll_cons_mk (shut_string Try.underlying9 w0) trodAll_mk0), rfl, bel.frame _, fun h => by cases h⟩

theorem holds : Rows.SealBackSaid :=
  OpenClaim.holds_of_wide 4 Try.f4 rfl rfl rfl rfl rfl rfl rfl ⟨rfl, rfl, rfl, rfl, rfl⟩ rfl rfl rfl rfl rfl (by kernel_rfl) Try.func4 (by kernel_rfl)
    (of_decide_eq_true (by kernel_rfl)) (by unfold Func.isWrapper; first | (rw [if_pos (by decide +kernel)]; kernel_rfl) | (rw [if_neg (by decide +kernel)]; exact ⟨rfl, rfl⟩))
    (fun os started H enc _ => lifted os started H enc)

end Go.Proofs.Ytaldjafpbponbaa.sealBack
