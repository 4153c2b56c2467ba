/-
  SealOnce: for every input the law answers true: a text sealed twice and taken twice is what it was; a text is taken just if its last four bytes are those that Put lays. Conditions: none.
-/
import Derived.Test.YtaldjafpbponbaaSeLaw
import Derived.Test.YtaldjafpbponbaaSeBytes
namespace Go.Proofs.Ytaldjafpbponbaa.sealOnce
open Go.ChangeShapes Go.WideShapes Go.ChangeAt Go.RowKit
open Go.ChangeMaps (open_string shut_string)

theorem tail_good (s : ByteArray) (hs : s.size ≤ 2000) (n : Nat) (he : n = Rc3.crc s.data.toList) (w : World) :
    Calls Try.prog 10 #[.string (s ++ ⟨(Rc2.put 4 n).toArray⟩)] w fun e w' => e = .returned (.tuple #[.string s, .int .i64 0]) ∧ Below w.heap.size w w' := by
  have := Take_sealed s (by unfold maxLen; omega) w
  unfold sealedB at this
  rw [he]
  exact this

theorem tail_bad (s : ByteArray) (hs : s.size ≤ 2000) (n : Nat) (hn : n < 4294967296) (he : n ≠ Rc3.crc s.data.toList) (w : World) :
    Calls Try.prog 10 #[.string (s ++ ⟨(Rc2.put 4 n).toArray⟩)] w fun e w' => e = .returned (.tuple #[.string ⟨#[]⟩, .int .i64 9]) ∧ Below w.heap.size w w' := by
  have hz : (s ++ ByteArray.mk (Rc2.put 4 n).toArray).size = s.size + 4 := by rw [ByteArray.size_append, size_put]
  have ha : (ahead (s ++ ByteArray.mk (Rc2.put 4 n).toArray)).data.toList = s.data.toList := by
    rw [list_ahead, hz, list_append, show s.size + 4 - 4 = s.data.toList.length by simp, List.take_left']
    rfl
  have hb : (behind (s ++ ByteArray.mk (Rc2.put 4 n).toArray)).data.toList = Rc2.put 4 n := by
    rw [list_behind, hz, list_append, show s.size + 4 - 4 = s.data.toList.length by simp, List.drop_left']
    rfl
  refine Take_bad _ (by omega) (by unfold maxLen; omega) ?_ w
  rw [ha, hb, get4 _ (Rc2.put_length _ _), Rc3.say_put4 n hn]
  exact he

set_option maxHeartbeats 4000000 in
theorem walkShort (s : ByteArray) (hs : s.size ≤ 2000) (n : Nat) (hn : n < 4294967296) (w : World) :
    Calls Try.prog 7 #[.string s, .int .u32 (n : Int)] w fun e w' => e = .returned (.bool true) ∧ Below w.heap.size w w' := by
  have hz := sealed_size s
  have HH := Lib.hid (rel shown_any w)
  have HP := Lib.hid (rel (Put_seal s (by unfold maxLen; omega)) w)
  have HP2 := Lib.hid (rel (Put_seal (sealedB s) (by unfold maxLen; omega)) w)
  have HT := Lib.hid (rel (Take_sealed s (by unfold maxLen; omega)) w)
  have HT2 := Lib.hid (rel (Take_sealed (sealedB s) (by unfold maxLen; omega)) w)
  have HS := Lib.hid (rel (Sum_any s (by unfold maxLen; omega)) w)
  have hbw := Below.refl w.heap.size w
  have hs' : ¬ (2000 : Int) < s.size := by omega
  have hz4 := size_put 4 n
  have hadd : (9223372036854775807 < s.size + 4) = False := eq_false (by omega)
  have hcv := fun W => back_four W n
  generalize sealedB (sealedB s) = Q at HP2 HT2
  generalize sealedB s = P at HP HT HP2 HT2
  by_cases he : n = Rc3.crc s.data.toList
  · have HT3 := Lib.hid (rel (tail_good s hs n he) w)
    rw [← he] at HS
    generalize ByteArray.mk (Rc2.put 4 n).toArray = B at hcv hz4 HT3
    clear he hz hs hn
    go_enter Try.func7, Try.ntmps7
    go_wp2_with (first | (go_at_call 9; ((with_reducible refine (HH.out _ (by first | assumption | exact ba (by assumption) _)).mono ?_)); rintro e w1 ⟨rfl, hbw⟩) | (go_at_call 12; ((with_reducible refine (HS.out _ (by first | assumption | exact ba (by assumption) _)).mono ?_)); rintro e w1 ⟨rfl, hbw⟩) | (go_at_call 14; ((with_reducible refine (HP.out _ (by first | assumption | exact ba (by assumption) _)).mono ?_)); rintro e w1 ⟨rfl, hbw⟩) | (go_at_call 14; ((with_reducible refine (HP2.out _ (by first | assumption | exact ba (by assumption) _)).mono ?_)); rintro e w1 ⟨rfl, hbw⟩) | (go_at_call 10; ((with_reducible refine (HT.out _ (by first | assumption | exact ba (by assumption) _)).mono ?_)); rintro e w1 ⟨rfl, hbw⟩) | (go_at_call 10; ((with_reducible refine (HT2.out _ (by first | assumption | exact ba (by assumption) _)).mono ?_)); rintro e w1 ⟨rfl, hbw⟩) | (go_at_call 10; ((with_reducible refine (HT3.out _ (by first | assumption | exact ba (by assumption) _)).mono ?_)); rintro e w1 ⟨rfl, hbw⟩))
    go_ret
    exact ⟨rfl, hbw⟩
  · have HT3 := Lib.hid (rel (tail_bad s hs n hn he) w)
    generalize ByteArray.mk (Rc2.put 4 n).toArray = B at hcv hz4 HT3
    generalize Rc3.crc s.data.toList = a at HS he
    have he2 : ((n : Int) == (a : Int)) = false := by simp; omega
    clear he hz hs hn
    go_enter Try.func7, Try.ntmps7
    go_wp2_with (first | (go_at_call 9; ((with_reducible refine (HH.out _ (by first | assumption | exact ba (by assumption) _)).mono ?_)); rintro e w1 ⟨rfl, hbw⟩) | (go_at_call 12; ((with_reducible refine (HS.out _ (by first | assumption | exact ba (by assumption) _)).mono ?_)); rintro e w1 ⟨rfl, hbw⟩) | (go_at_call 14; ((with_reducible refine (HP.out _ (by first | assumption | exact ba (by assumption) _)).mono ?_)); rintro e w1 ⟨rfl, hbw⟩) | (go_at_call 14; ((with_reducible refine (HP2.out _ (by first | assumption | exact ba (by assumption) _)).mono ?_)); rintro e w1 ⟨rfl, hbw⟩) | (go_at_call 10; ((with_reducible refine (HT.out _ (by first | assumption | exact ba (by assumption) _)).mono ?_)); rintro e w1 ⟨rfl, hbw⟩) | (go_at_call 10; ((with_reducible refine (HT2.out _ (by first | assumption | exact ba (by assumption) _)).mono ?_)); rintro e w1 ⟨rfl, hbw⟩) | (go_at_call 10; ((with_reducible refine (HT3.out _ (by first | assumption | exact ba (by assumption) _)).mono ?_)); rintro e w1 ⟨rfl, hbw⟩))
    go_ret
    exact ⟨rfl, hbw⟩

set_option maxHeartbeats 1000000 in
theorem walkLong (s : ByteArray) (h : 2000 < s.size) (c : Int) (w : World) :
    Calls Try.prog 7 #[.string s, .int .u32 c] w fun e w' => e = .returned (.bool true) ∧ Below w.heap.size w w' := by
  have HH := Lib.hid (rel shown_any w)
  have hbw := Below.refl w.heap.size w
  have hs' : (2000 : Int) < s.size := by omega
  clear h
  go_enter Try.func7, Try.ntmps7
  go_wp2_with (go_at_call 9; ((with_reducible refine (HH.out _ (by first | assumption | exact ba (by assumption) _)).mono ?_)); rintro e w1 ⟨rfl, hbw⟩)
  go_ret
  exact ⟨rfl, hbw⟩

theorem walk (a0 : ByteArray) (_ : a0.size ≤ maxLen) (a1 : Int) (w1 : (Lit.int .u32 a1).wf = true) (w : World) :
    Calls Try.prog 7 #[.string a0, .int .u32 a1] w fun e w' => e = .returned (.bool true) ∧ Below w.heap.size w w' := by
  by_cases h1 : a0.size ≤ 2000
  · obtain ⟨n, rfl, hn⟩ := nat_of32 w1
    exact walkShort a0 h1 n hn w
  · exact walkLong a0 (by omega) a1 w

set_option maxRecDepth 100000 in
theorem lifted (os : Os) (started : os.Started) (H : Type) (enc : TypeId × Value → H) :
    ReturnsInHanded {} Try.checked os 7 .any (Rows.sealOnceSpec.pre6 enc Try.prog Try.f7 Rows.sealOnceRow.domain false) (Rows.sealOnceSpec.post enc Try.prog Try.f7 false true false false) := by
  refine returnsInHanded_of_change (C := Try.checked) own started (by kernel_rfl) Try.func7
    (ChangeSpec.witness6 (enc := enc) (C := Try.checked) false ⟨#[], #[.string ByteArray.empty, .int .u32 0], []⟩ 8 (by kernel_rfl) (by kernel_rfl) (by kernel_rfl) (by kernel_rfl)) ?_
  intro W base args ds gs before hval0 hW _ _
  have hval : ∀ (j : Nat) t v, Try.f7.params[j]? = some t → args[j]? = some v → Value.okWide Try.prog W .any base t v := hval0
  have hW' := hW
  obtain ⟨p, q, hA0, hV, rfl, hfz, hnd⟩ := hW
  have hA : DataW.TrodAll enc Try.prog W 0 (fun _ => true) true Try.f7.params.toList args.toList ds p := hA0
  rw [Try.params7] at hA hval
  obtain ⟨v0, vs0, d0, ds0, p0, q0, hargs, rfl, rfl, h0, r0⟩ := trodAll_cons hA
  obtain ⟨v1, vs1, d1, ds1, p1, q1, rfl, rfl, rfl, h1, r1⟩ := trodAll_cons r0
  obtain ⟨rfl, rfl, rfl⟩ := trodAll_nil r1
  obtain rfl : args = #[v0, v1] := by cases args; simp_all
  obtain ⟨rfl, rfl⟩ := trodVars_none hV
  obtain ⟨a0, rfl, rfl, rfl, w0⟩ := open_string Try.underlying9 (hval 0 9 v0 rfl rfl) h0
  obtain ⟨a1, rfl, rfl, rfl, w1⟩ := open_int Try.underlying26 (hval 1 26 v1 rfl rfl) h1
  clear hA0 hval0
  simp only [List.append_nil] at hW'
  refine (walk a0 w0 a1 w1 W).mono fun e W' ⟨he, bel⟩ => ?_
  subst he
  exact ⟨_, rfl, _, _, _, [], _, [], hW', trodAll_mk1 (shut_bool Try.underlying4 _), (trodAll_cons_mk (shut_string Try.underlying9 w0) (trodAll_cons_mk (shut_int Try.underlying26 w1) trodAll_mk0)), rfl, bel.frame _, fun h => by cases h⟩

theorem holds : Rows.SealOnceSaid :=
  OpenClaim.holds_of_wide 7 Try.f7 rfl rfl rfl rfl rfl rfl rfl ⟨rfl, rfl, rfl, rfl, rfl⟩ rfl rfl rfl rfl rfl (by kernel_rfl) Try.func7 (by kernel_rfl)
    (of_decide_eq_true (by kernel_rfl)) (by unfold Func.isWrapper; first | (rw [if_pos (by decide +kernel)]; kernel_rfl) | (rw [if_neg (by decide +kernel)]; exact ⟨rfl, rfl⟩))
    (fun os started H enc _ => lifted os started H enc)

end Go.Proofs.Ytaldjafpbponbaa.sealOnce
