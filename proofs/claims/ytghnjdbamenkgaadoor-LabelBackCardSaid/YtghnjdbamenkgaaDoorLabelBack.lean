/-
  LabelBack: for every input the law answers true: a quoted text has signs alone, is read back as it was, and two texts are quoted alike only if they are one. Condition: the listed variables of Go's own library start as the program's text lays them (the card ties them).
-/
import Derived.Test.YtghnjdbamenkgaaDoorLaw
import Derived.Test.YtghnjdbamenkgaaDoorLawB
namespace Go.Proofs.YtghnjdbamenkgaaDoor.labelBack
open Go.ChangeShapes Go.WideShapes Go.ChangeAt Go.RowKit
open Go.ChangeMaps (open_string shut_string)

set_option maxHeartbeats 2000000 in
set_option maxRecDepth 100000 in
theorem walk (a0 : ByteArray) (_w0 : a0.size ≤ maxLen) (a1 : ByteArray) (_w1 : a1.size ≤ maxLen) (w : World) (hTE : Tab w ∧ Errs w) :
    Calls Tryd.prog 6 #[.string a0, .string a1] w fun e w' => e = .returned (.bool true) ∧ Below w.heap.size w w' := by
  unfold maxLen at *
  obtain ⟨hT, hE⟩ := hTE
  have HSh := Lib.hid (relT shown_any w hT)
  have HB0 := Below.refl w.heap.size w
  by_cases hs : a0.size ≤ 500
  · by_cases hs1 : a1.size ≤ 500
    · have hQ := relT (fun w hT => Quote_any a0 (by omega) w hT) w hT
      have hQ1 := relT (fun w hT => Quote_any a1 (by omega) w hT) w hT
      obtain ⟨q, hq⟩ : ∃ q : ByteArray, q = ⟨(Rc1.quote a0.data.toList).toArray⟩ := ⟨_, rfl⟩
      obtain ⟨q1, hq1⟩ : ∃ q : ByteArray, q = ⟨(Rc1.quote a1.data.toList).toArray⟩ := ⟨_, rfl⟩
      rw [← hq] at hQ
      rw [← hq1] at hQ1
      have hql : q.data.toList = Rc1.quote a0.data.toList := by rw [hq]
      have hql1 : q1.data.toList = Rc1.quote a1.data.toList := by rw [hq1]
      have hqz : q.size ≤ 9 * 500 + 2 := by
        rw [← len_data, hql]
        have := Rc1.quoteF_len a0.data.toList
        rw [len_data] at this
        unfold Rc1.quote; split
        · simp
        · omega
      have hU := relTE (fun w hT hE => Unquote_any q (by omega) w hT hE) w hT hE
      rw [Rc1.unq_some hql.symm, show (⟨a0.data.toList.toArray⟩ : ByteArray) = a0 from rfl] at hU
      have HSG := Lib.hid (Rc1.quote_signs a0.data.toList)
      have HQ := Lib.hid hQ; have HQ1 := Lib.hid hQ1; have HU := Lib.hid hU; have HQL := Lib.hid hql
      have hqe := isEmpty_of q
      rw [decide_eq_false (by
        intro h0
        have := nil_of q h0
        rw [hql] at this
        exact Rc1.quote_ne _ this)] at hqe
      have hiff : (q.toList == q1.toList) = (a0.toList == a1.toList) := by
        simp only [ByteArray.toList_eq, hql, hql1]
        rw [Bool.eq_iff_iff, beq_iff_eq, beq_iff_eq]
        exact ⟨fun h => Rc1.quote_inj _ _ h, fun h => by rw [h]⟩
      clear hQ hQ1 hU hql hql1 hq hq1 hT hE
      cases heq : (a0.toList == a1.toList)
      all_goals
        rw [heq] at hiff
        go_enter Tryd.func6, Tryd.ntmps6
        go_wp2_with (first | (go_at_call 11; ((with_reducible refine (HSh.out _ (by assumption)).mono ?_)); rintro e w1 ⟨rfl, hbw⟩) | (go_at_call 24; ((with_reducible refine (HQ.out _ (by assumption)).mono ?_)); rintro e w1 ⟨rfl, hbw⟩))
        go_loop [7] (fun i => ∃ k : Nat, k ≤ q.size ∧ i = .int .i64 k) (fun i => q.size - (intOf i).toNat)
        case atStart => exact ⟨0, Nat.zero_le _, rfl⟩
        case round =>
          obtain ⟨k, hk, rfl⟩ := hrel
          by_cases hlt : k < q.size
          · have hlt' : (k : Int) < q.size := by omega
            have hsg := HSG.out (q[k]'hlt) (by rw [← HQL.out]; exact List.getElem_mem (by rw [len_data]; exact hlt))
            obtain ⟨g1, g2⟩ := hsg
            go_wp2
            go_round
            case rel => exact ⟨k + 1, by omega, by go_num⟩
            case measure => simp [intOf]; omega
          · go_wp2_with (first | (go_at_call 22; ((with_reducible refine (HU.out _ (by assumption)).mono ?_)); rintro e w1 ⟨rfl, hbw⟩) | (go_at_call 24; ((with_reducible refine (HQ1.out _ (by assumption)).mono ?_)); rintro e w1 ⟨rfl, hbw⟩))
            go_ret
            exact ⟨rfl, hbw⟩
    · have hs' : (500 : Int) < a1.size := by omega
      have hs2 : ¬ (500 : Int) < a0.size := by omega
      go_enter Tryd.func6, Tryd.ntmps6
      go_wp2_with ((go_at_call 11; ((with_reducible refine (HSh.out _ (by assumption)).mono ?_)); rintro e w1 ⟨rfl, hbw⟩))
      go_ret
      exact ⟨rfl, hbw⟩
  · have hs' : (500 : Int) < a0.size := by omega
    go_enter Tryd.func6, Tryd.ntmps6
    go_wp2_with ((go_at_call 11; ((with_reducible refine (HSh.out _ (by assumption)).mono ?_)); rintro e w1 ⟨rfl, hbw⟩))
    go_ret
    exact ⟨rfl, hbw⟩

set_option maxRecDepth 100000 in
theorem lifted (os : Os) (started : os.Started) (H : Type) (enc : TypeId × Value → H) :
    ReturnsInHanded {} Tryd.checked os 6 .any (fun w args => (Rows.labelBackSpec.pre enc Tryd.prog Tryd.f6 [] false w args ∧ laidMetH Tryd.prog laid5 w) ∧ sizedMet enc Tryd.prog Tryd.f6 (OpenSpec.ofChange Rows.labelBackSpec) false w args)
      (Rows.labelBackSpec.post enc Tryd.prog Tryd.f6 false true false false) := by
  refine returnsInHanded_of_change_and (C := Tryd.checked) (X := fun w _ => laidMetH Tryd.prog laid5 w) (fun _ _ _ hh h => h.of_heap hh) own started (by kernel_rfl) Tryd.func6
    (ChangeSpec.witness_shaped (enc := enc) (C := Tryd.checked) (os := os) (X := fun w _ => laidMetH Tryd.prog laid5 w) false (World.doorLaid Tryd.prog 400 os) #[.string ByteArray.empty, .string ByteArray.empty] 8 rfl (World.shaped_of_RefB (by kernel_rfl) (by kernel_rfl)) (by kernel_rfl) (by kernel_rfl) (by kernel_rfl) (door_met5 os _)) ?_
  intro W base args ds gs before hval0 hW _ _ hL _
  have hval : ∀ (j : Nat) t v, Tryd.f6.params[j]? = some t → args[j]? = some v → Value.okWide Tryd.prog W .any base t v := hval0
  have hW' := hW
  obtain ⟨p, q, hA0, hV, rfl, hfz, hnd⟩ := hW
  have hA : DataW.TrodAll enc Tryd.prog W 0 (fun _ => true) true Tryd.f6.params.toList args.toList ds p := hA0
  rw [Tryd.params6] at hA hval
  obtain ⟨v0, vs0, d0, ds0, p0, q0, hargs, rfl, rfl, h0, r0⟩ := trodAll_cons hA
  obtain ⟨v1, vs1, d1, ds1, p1, q1, rfl, rfl, rfl, h1, r1⟩ := trodAll_cons r0
  obtain ⟨rfl, rfl, rfl⟩ := trodAll_nil r1
  obtain rfl : args = #[v0, v1] := by cases args; simp_all
  obtain ⟨rfl, rfl⟩ := trodVars_none hV
  obtain ⟨a0, rfl, rfl, rfl, w0⟩ := open_string Tryd.underlying9 (hval 0 9 v0 rfl rfl) h0
  obtain ⟨a1, rfl, rfl, rfl, w1⟩ := open_string Tryd.underlying9 (hval 1 9 v1 rfl rfl) h1
  clear hA0 hval0
  simp only [List.append_nil] at hW'
  refine (walk a0 w0 a1 w1 W (of_laid5 hL)).mono fun e W' ⟨he, hg⟩ => ?_
  subst he
  exact ⟨_, rfl, _, _, _, [], _, [], hW', trodAll_mk1 (shut_bool Tryd.underlying4 _), (trodAll_cons_mk (shut_string Tryd.underlying9 w0) (trodAll_cons_mk (shut_string Tryd.underlying9 w1) trodAll_mk0)), rfl, hg.frame _, fun h => by cases h⟩

theorem over : Rows.labelBackRow.holds Tryd.pinned (OpenSpec.ofChange Rows.labelBackSpec) :=
  OpenClaim.holds_of_wide 6 Tryd.f6 rfl rfl rfl rfl rfl rfl rfl ⟨rfl, rfl, rfl, rfl, rfl⟩ rfl rfl rfl rfl rfl (by kernel_rfl) Tryd.func6 (by kernel_rfl)
    (of_decide_eq_true (by kernel_rfl)) (by unfold Func.isWrapper; first | (rw [if_pos (by decide +kernel)]; kernel_rfl) | (rw [if_neg (by decide +kernel)]; exact ⟨rfl, rfl⟩))
    (fun os started H enc _ => lifted os started H enc)

theorem holds : Rows.LabelBackCardSaid :=
  Claim7.holds_tied_plain_at .later [] [.data, .data, .data, .sentinel, .sentinel] true Rows.labelBackCard.stood.harness Rows.labelBackCard.stood.looks
    over (fun _ h => by cases h) (by kernel_rfl) (fun _ h => by cases h) labelBack_row_tie rfl ⟨rfl, rfl⟩ (by kernel_rfl) rfl
    (fun f fn hf hfn => by
      obtain rfl : f = 6 := Option.some.inj (hf.symm.trans (by kernel_rfl))
      obtain rfl : fn = Tryd.f6 := (Option.some.inj (Tryd.func6.symm.trans hfn)).symm
      exact ⟨by kernel_rfl, fun j t ht => by
        rw [Tryd.params6] at ht
        have hm : t ∈ [9, 9] := by simpa using Array.mem_of_getElem? ht
        have hall : ([9, 9].all fun u => !Tryd.prog.wantsStandIn u) = true := by kernel_rfl
        exact (show Tryd.prog.wantsStandIn t = false by simpa using List.all_eq_true.1 hall t hm)⟩)
    (by kernel_rfl)

end Go.Proofs.YtghnjdbamenkgaaDoor.labelBack
