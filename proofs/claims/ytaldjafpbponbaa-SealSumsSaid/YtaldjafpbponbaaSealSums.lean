/-
  SealSums: for every input the law answers true: a text's sum, the text with the sum behind, and what is taken off, are as the document says. Conditions: none.
-/
import Derived.Test.YtaldjafpbponbaaSeLaw
namespace Go.Proofs.Ytaldjafpbponbaa.sealSums
open Go.ChangeShapes Go.WideShapes Go.ChangeAt Go.RowKit
open Go.ChangeMaps (open_string shut_string)

set_option maxHeartbeats 2000000 in
theorem walkShort (s t : ByteArray) (hs : s.size ≤ 2000) (ht : t.size ≤ 2000) (w : World) :
    Calls Try.prog 3 #[.string s, .string t] w fun e w' => e = .returned (.bool true) ∧ Below w.heap.size w w' := by
  have HH := Lib.hid (rel shown_any w)
  have HT := Lib.hid (rel (Take_any s (by unfold maxLen; omega)) w)
  have HTR := Lib.hid (rel (TakeR_any s (by unfold maxLen; omega)) w)
  have HS := Lib.hid (rel (Sum_any s (by unfold maxLen; omega)) w)
  have HSR := Lib.hid (relS (SumR_any s (by unfold maxLen; omega)) w)
  have HRT := Lib.hid (relS (SumR_any t (by unfold maxLen; omega)) w)
  have HP := Lib.hid (rel (Put_seal s (by unfold maxLen; omega)) w)
  have HPR := Lib.hid (rel (PutR_seal s (by unfold maxLen; omega)) w)
  have HE := Lib.hid (rel (Equal_any s t (by unfold maxLen; omega) (by unfold maxLen; omega)) w)
  have hbw := Below.refl w.heap.size w
  have hs' : ¬ (2000 : Int) < s.size := by omega
  have ht' : ¬ (2000 : Int) < t.size := by omega
  generalize tkT s = T at HT HTR
  generalize tkE s = E at HT HTR
  generalize sealedB s = P at HP HPR
  generalize Rc3.crc s.data.toList = a at HS HSR HE
  generalize Rc3.crc t.data.toList = b at HRT HE
  clear hs ht
  go_enter Try.func3, Try.ntmps3
  go_wp2_with (first | (go_at_call 9; ((with_reducible refine (HH.out _ (by first | assumption | exact ba (by assumption) _)).mono ?_)); rintro e w1 ⟨rfl, hbw⟩) | (go_at_call 10; ((with_reducible refine (HT.out _ (by first | assumption | exact ba (by assumption) _)).mono ?_)); rintro e w1 ⟨rfl, hbw⟩) | (go_at_call 11; ((with_reducible refine (HTR.out _ (by first | assumption | exact ba (by assumption) _)).mono ?_)); rintro e w1 ⟨rfl, hbw⟩) | (go_at_call 12; ((with_reducible refine (HS.out _ (by first | assumption | exact ba (by assumption) _)).mono ?_)); rintro e w1 ⟨rfl, hbw⟩) | (go_at_call 13; ((with_reducible refine (HSR.out _ (by first | assumption | exact ba (by assumption) _)).mono ?_)); rintro e w1 ⟨rfl, hbw⟩) | (go_at_call 13; ((with_reducible refine (HRT.out _ (by first | assumption | exact ba (by assumption) _)).mono ?_)); rintro e w1 ⟨rfl, hbw⟩) | (go_at_call 14; ((with_reducible refine (HP.out _ (by first | assumption | exact ba (by assumption) _)).mono ?_)); rintro e w1 ⟨rfl, hbw⟩) | (go_at_call 15; ((with_reducible refine (HPR.out _ (by first | assumption | exact ba (by assumption) _)).mono ?_)); rintro e w1 ⟨rfl, hbw⟩) | (go_at_call 16; ((with_reducible refine (HE.out _ (by first | assumption | exact ba (by assumption) _)).mono ?_)); rintro e w1 ⟨rfl, hbw⟩))
  go_ret
  exact ⟨rfl, hbw⟩

set_option maxHeartbeats 1000000 in
theorem walkLong (s t : ByteArray) (h : 2000 < s.size ∨ (s.size ≤ 2000 ∧ 2000 < t.size)) (w : World) :
    Calls Try.prog 3 #[.string s, .string t] w fun e w' => e = .returned (.bool true) ∧ Below w.heap.size w w' := by
  have HH := Lib.hid (rel shown_any w)
  have hbw := Below.refl w.heap.size w
  rcases h with h | ⟨h1, h2⟩
  · have hs' : (2000 : Int) < s.size := by omega
    clear h
    go_enter Try.func3, Try.ntmps3
    go_wp2_with (go_at_call 9; ((with_reducible refine (HH.out _ (by first | assumption | exact ba (by assumption) _)).mono ?_)); rintro e w1 ⟨rfl, hbw⟩)
    go_ret
    exact ⟨rfl, hbw⟩
  · have hs' : ¬ (2000 : Int) < s.size := by omega
    have ht' : (2000 : Int) < t.size := by omega
    clear h1 h2
    go_enter Try.func3, Try.ntmps3
    go_wp2_with (go_at_call 9; ((with_reducible refine (HH.out _ (by first | assumption | exact ba (by assumption) _)).mono ?_)); rintro e w1 ⟨rfl, hbw⟩)
    go_ret
    exact ⟨rfl, hbw⟩

theorem walk (a0 : ByteArray) (_ : a0.size ≤ maxLen) (a1 : ByteArray) (_ : a1.size ≤ maxLen) (w : World) :
    Calls Try.prog 3 #[.string a0, .string a1] w fun e w' => e = .returned (.bool true) ∧ Below w.heap.size w w' := by
  by_cases h1 : a0.size ≤ 2000
  · by_cases h2 : a1.size ≤ 2000
    · exact walkShort a0 a1 h1 h2 w
    · exact walkLong a0 a1 (.inr ⟨h1, by omega⟩) w
  · exact walkLong a0 a1 (.inl (by omega)) w

set_option maxRecDepth 100000 in
theorem lifted (os : Os) (started : os.Started) (H : Type) (enc : TypeId × Value → H) :
    ReturnsInHanded {} Try.checked os 3 .any (Rows.sealSumsSpec.pre6 enc Try.prog Try.f3 Rows.sealSumsRow.domain false) (Rows.sealSumsSpec.post enc Try.prog Try.f3 false true false false) := by
  refine returnsInHanded_of_change (C := Try.checked) own started (by kernel_rfl) Try.func3
    (ChangeSpec.witness6 (enc := enc) (C := Try.checked) false ⟨#[], #[.string ByteArray.empty, .string ByteArray.empty], []⟩ 8 (by kernel_rfl) (by kernel_rfl) (by kernel_rfl) (by kernel_rfl)) ?_
  intro W base args ds gs before hval0 hW _ _
  have hval : ∀ (j : Nat) t v, Try.f3.params[j]? = some t → args[j]? = some v → Value.okWide Try.prog W .any base t v := hval0
  have hW' := hW
  obtain ⟨p, q, hA0, hV, rfl, hfz, hnd⟩ := hW
  have hA : DataW.TrodAll enc Try.prog W 0 (fun _ => true) true Try.f3.params.toList args.toList ds p := hA0
  rw [Try.params3] at hA hval
  obtain ⟨v0, vs0, d0, ds0, p0, q0, hargs, rfl, rfl, h0, r0⟩ := trodAll_cons hA
  obtain ⟨v1, vs1, d1, ds1, p1, q1, rfl, rfl, rfl, h1, r1⟩ := trodAll_cons r0
  obtain ⟨rfl, rfl, rfl⟩ := trodAll_nil r1
  obtain rfl : args = #[v0, v1] := by cases args; simp_all
  obtain ⟨rfl, rfl⟩ := trodVars_none hV
  obtain ⟨a0, rfl, rfl, rfl, w0⟩ := open_string Try.underlying9 (hval 0 9 v0 rfl rfl) h0
  obtain ⟨a1, rfl, rfl, rfl, w1⟩ := open_string Try.underlying9 (hval 1 9 v1 rfl rfl) h1
  clear hA0 hval0
  simp only [List.append_nil] at hW'
  refine (walk a0 w0 a1 w1 W).mono fun e W' ⟨he, bel⟩ => ?_
  subst he
  exact ⟨_, rfl, _, _, _, [], _, [], hW', trodAll_mk1 (shut_bool Try.underlying4 _), (trodAll_cons_mk (shut_string Try.underlying9 w0) (trodAll_cons_mk (shut_string Try.underlying9 w1) trodAll_mk0)), rfl, bel.frame _, fun h => by cases h⟩

theorem holds : Rows.SealSumsSaid :=
  OpenClaim.holds_of_wide 3 Try.f3 rfl rfl rfl rfl rfl rfl rfl ⟨rfl, rfl, rfl, rfl, rfl⟩ rfl rfl rfl rfl rfl (by kernel_rfl) Try.func3 (by kernel_rfl)
    (of_decide_eq_true (by kernel_rfl)) (by unfold Func.isWrapper; first | (rw [if_pos (by decide +kernel)]; kernel_rfl) | (rw [if_neg (by decide +kernel)]; exact ⟨rfl, rfl⟩))
    (fun os started H enc _ => lifted os started H enc)

end Go.Proofs.Ytaldjafpbponbaa.sealSums
