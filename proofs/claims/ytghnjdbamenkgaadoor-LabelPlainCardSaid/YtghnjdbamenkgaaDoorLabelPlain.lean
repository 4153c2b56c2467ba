/-
  LabelPlain: for every input the law answers true: a text of plain signs is quoted as it is, is a name if it is short, and its folded one has no capital. Condition: the listed variables of Go's own library start as the program's text lays them (the card ties them).
-/
import Derived.Test.YtghnjdbamenkgaaDoorLaw
import Derived.Test.YtghnjdbamenkgaaDoorFold
import Derived.Test.YtghnjdbamenkgaaDoorMathP
import Derived.BigQuiet
import Derived.Deep.QuietTactic
import Derived.WalkSmall
namespace Go.Proofs.YtghnjdbamenkgaaDoor.labelPlain
open Go.ChangeShapes Go.WideShapes Go.ChangeAt Go.RowKit
open Go.ChangeMaps (open_string shut_string)

/-- Is byte k a plain sign? -/
def plN (l : List UInt8) (k : Nat) : Bool := decide (33 ≤ Rc1.bt l k) && decide (Rc1.bt l k ≤ 126) && !decide (Rc1.bt l k = 92)

theorem pl_step {l : List UInt8} {k : Nat} (h : k < l.length) (hb : plN l k = true) (ha : (l.take k).all Rc1.plB = true) : (l.take (k + 1)).all Rc1.plB = true := by
  rw [List.take_succ_eq_append_getElem h, List.all_append, ha]
  simp only [List.all_cons, List.all_nil, Bool.and_true, Bool.true_and]
  rw [show Rc1.plB l[k] = plN l k by unfold Rc1.plB plN; rw [Rc1.bt_get l k h], hb]

set_option maxHeartbeats 2000000 in
set_option maxRecDepth 100000 in
theorem walk (a0 : ByteArray) (_w0 : a0.size ≤ maxLen) (w : World) (hT : Tab w) :
    Calls Tryd.prog 10 #[.string a0] w fun e w' => e = .returned (.bool true) ∧ Below w.heap.size w w' := by
  unfold maxLen at *
  have HSh := Lib.hid (relT shown_any w hT)
  have HB0 := Below.refl w.heap.size w
  by_cases hs : a0.size ≤ 400
  · have hF := rel (fun w => Fold_any a0 (by omega) w) w
    obtain ⟨f, hf⟩ : ∃ f : ByteArray, f = ⟨(Rc1.fold a0.data.toList).toArray⟩ := ⟨_, rfl⟩
    rw [← hf] at hF
    have hfl : f.data.toList = Rc1.fold a0.data.toList := by rw [hf]
    have hfz : f.size = a0.size := by rw [← len_data, hfl, Rc1.fold_length, len_data]
    have HQ := Lib.hid (relT (fun w hT => Quote_any a0 (by omega) w hT) w hT)
    have HR := Lib.hid (rel (fun w => Right_any a0 (by omega) w) w)
    have HV := Lib.hid (rel (fun w => Valid_any a0 (by omega) w) w)
    have HC := Lib.hid (rel (fun w => Count_any a0 (by omega) w) w)
    have HF := Lib.hid hF; have HFL := Lib.hid hfl; have HFZ := Lib.hid hfz
    clear hF hfl hf hT hfz
    go_enter Tryd.func10, Tryd.ntmps10
    go_wp2_with ((go_at_call 11; ((with_reducible refine (HSh.out _ (by assumption)).mono ?_)); rintro e w1 ⟨rfl, hbw⟩))
    go_loop [4] (fun i => ∃ k : Nat, k ≤ a0.size ∧ i = .int .i64 k ∧ Hid ((a0.data.toList.take k).all Rc1.plB = true)) (fun i => a0.size - (intOf i).toNat)
    case atStart => exact ⟨0, Nat.zero_le _, rfl, rfl⟩
    case round =>
      obtain ⟨k, hk, rfl, hal⟩ := hrel
      by_cases hlt : k < a0.size
      · have hlt' : (k : Int) < a0.size := by omega
        by_cases c1 : (a0[k]'hlt).toNat < 33
        · have c1' : decide (((a0[k]'hlt).toNat : Int) < 33) = true := decide_eq_true (by omega)
          go_wp2
          go_ret
          exact ⟨rfl, hbw⟩
        · have c1' : decide (((a0[k]'hlt).toNat : Int) < 33) = false := decide_eq_false (by omega)
          by_cases c2 : 126 < (a0[k]'hlt).toNat
          · have c2' : decide ((126 : Int) < ((a0[k]'hlt).toNat : Int)) = true := decide_eq_true (by omega)
            go_wp2
            go_ret
            exact ⟨rfl, hbw⟩
          · have c2' : decide ((126 : Int) < ((a0[k]'hlt).toNat : Int)) = false := decide_eq_false (by omega)
            cases c3 : (((a0[k]'hlt).toNat : Int) == 92) with
            | true =>
              go_wp2
              go_ret
              exact ⟨rfl, hbw⟩
            | false =>
              have GB := Lib.hid (get_bt a0 k hlt)
              go_wp2
              go_round
              case rel =>
                refine ⟨k + 1, by omega, by go_num, ?_⟩
                refine pl_step (by rw [len_data]; exact hlt) ?_ hal.out
                unfold plN
                rw [GB.out, decide_eq_true (show 33 ≤ (a0[k]'hlt).toNat by omega), decide_eq_true (show (a0[k]'hlt).toNat ≤ 126 by omega), decide_eq_false (show ¬ (a0[k]'hlt).toNat = 92 by rw [beq_eq_false_iff_ne] at c3; omega)]; rfl
              case measure => simp [intOf]; omega
      · have hpl := hal.out
        rw [List.take_of_length_le (by rw [len_data]; omega)] at hpl
        have HPL := Lib.hid hpl
        have hke : k = a0.size := by omega
        clear hpl hal
        go_wp2_with ((go_at_call 20; ((with_reducible refine (HF.out _ (by assumption)).mono ?_)); rintro e w1 ⟨rfl, hbw⟩))
        go_loopw [6] (fun i wr => ∃ j : Nat, j ≤ a0.size ∧ i = .int .i64 j ∧ Below w.heap.size w wr) (fun i _ => a0.size - (intOf i).toNat)
        case atStart => exact ⟨0, Nat.zero_le _, rfl, hbw⟩
        case round =>
          obtain ⟨j, hj, rfl, hbr⟩ := hrel
          have hfz2 : f.size ≤ a0.size := by have := HFZ.out; omega
          have hfz3 : a0.size ≤ f.size := by have := HFZ.out; omega
          by_cases hjl : j < a0.size
          · have hjf : j < f.size := by omega
            have hjl' : (j : Int) < a0.size := by omega
            have hjf' : (j : Int) < f.size := by omega
            have hb := Rc1.plain_bt _ HPL.out j (by rw [len_data]; exact hjl)
            rw [get_bt a0 j hjl] at hb
            have hv : (f[j]'hjf).toNat = Rc1.fN (a0[j]'hjl).toNat := by
              rw [← get_bt f j hjf, HFL.out, Rc1.bt_fold, get_bt a0 j hjl]
            by_cases hcA : 65 ≤ (a0[j]'hjl).toNat ∧ (a0[j]'hjl).toNat ≤ 90
            · rw [Rc1.fN, if_pos hcA] at hv
              have q1 : decide ((65 : Int) ≤ ((f[j]'hjf).toNat : Int)) = true := decide_eq_true (by omega)
              have q2 : decide (((f[j]'hjf).toNat : Int) ≤ (90 : Int)) = false := decide_eq_false (by omega)
              have q3 : (((f[j]'hjf).toNat : Int) != ((a0[j]'hjl).toNat : Int)) = true := by rw [bne_iff_ne]; omega
              have q3n : ((f[j]'hjf).toNat != (a0[j]'hjl).toNat) = true := by rw [bne_iff_ne]; omega
              have q4w : IntKind.u8.wrap (((a0[j]'hjl).toNat : Int) + 32) = ((a0[j]'hjl).toNat : Int) + 32 := by simp [IntKind.wrap, IntKind.signed, IntKind.bits]; omega
              have q4 : (((f[j]'hjf).toNat : Int) != ((a0[j]'hjl).toNat : Int) + 32) = false := by rw [bne_eq_false_iff_eq]; omega
              clear hcA
              clear hv hb
              go_wp2
              go_quiet (fail)
              go_wp2
              go_roundw
              case rel => exact ⟨j + 1, by omega, by go_num, below_drewN hbr _⟩
              case measure => simp [intOf]; omega
            · rw [Rc1.fN, if_neg hcA] at hv
              by_cases hcB : (a0[j]'hjl).toNat < 65
              · have q1 : decide ((65 : Int) ≤ ((f[j]'hjf).toNat : Int)) = false := decide_eq_false (by omega)
                have q3 : (((f[j]'hjf).toNat : Int) != ((a0[j]'hjl).toNat : Int)) = false := by rw [bne_eq_false_iff_eq]; omega
                have q3n : ((f[j]'hjf).toNat != (a0[j]'hjl).toNat) = false := by rw [bne_eq_false_iff_eq]; omega
                clear hcA hcB
                clear hv hb
                go_wp2
                go_quiet (fail)
                go_wp2
                go_roundw
                case rel => exact ⟨j + 1, by omega, by go_num, below_drewN hbr _⟩
                case measure => simp [intOf]; omega
              · have q1 : decide ((65 : Int) ≤ ((f[j]'hjf).toNat : Int)) = true := decide_eq_true (by omega)
                have q2 : decide (((f[j]'hjf).toNat : Int) ≤ (90 : Int)) = false := decide_eq_false (by omega)
                have q3 : (((f[j]'hjf).toNat : Int) != ((a0[j]'hjl).toNat : Int)) = false := by rw [bne_eq_false_iff_eq]; omega
                have q3n : ((f[j]'hjf).toNat != (a0[j]'hjl).toNat) = false := by rw [bne_eq_false_iff_eq]; omega
                clear hcA hcB
                clear hv hb
                go_wp2
                go_quiet (fail)
                go_wp2
                go_roundw
                case rel => exact ⟨j + 1, by omega, by go_num, below_drewN hbr _⟩
                case measure => simp [intOf]; omega
          · have hjf' : ¬ (j : Int) < f.size := by omega
            have hV2 := HV.out
            rw [Rc1.plain_valid _ HPL.out] at hV2
            have hC2 := HC.out
            rw [Rc1.plain_count _ HPL.out, len_data] at hC2
            have HV2 := Lib.hid hV2; have HC2 := Lib.hid hC2
            have hie := isEmpty_of a0
            have hR2 := HR.out
            clear hV2 hC2 hke
            by_cases h0 : a0.size = 0
            · rw [decide_eq_true h0] at hie
              rw [nil_of a0 h0] at hR2
              rw [show Rc1.right [] = false from rfl] at hR2
              have HR2 := Lib.hid hR2
              clear hR2 h0
              go_wp2_with (first | (go_at_call 18; ((with_reducible refine (HR2.out _ (by assumption)).mono ?_)); rintro e w1 ⟨rfl, hbw⟩) | (go_at_call 12; ((with_reducible refine (HV2.out _ (by assumption)).mono ?_)); rintro e w1 ⟨rfl, hbw⟩) | (go_at_call 14; ((with_reducible refine (HC2.out _ (by assumption)).mono ?_)); rintro e w1 ⟨rfl, hbw⟩))
              go_ret
              exact ⟨rfl, hbw⟩
            · rw [decide_eq_false h0] at hie
              have hne : a0.data.toList ≠ [] := by intro e; have := congrArg List.length e; rw [len_data] at this; exact h0 this
              have hQ2 := HQ.out
              rw [show (⟨(Rc1.quote a0.data.toList).toArray⟩ : ByteArray) = a0 by
                unfold Rc1.quote; rw [if_neg hne, Rc1.plain_quote _ HPL.out]] at hQ2
              rw [Rc1.plain_right _ HPL.out hne, len_data] at hR2
              have HQ2 := Lib.hid hQ2
              clear hQ2 hne h0
              by_cases h24 : a0.size ≤ 24
              · rw [decide_eq_true h24] at hR2
                have HR2 := Lib.hid hR2
                have h24' : decide ((a0.size : Int) ≤ 24) = true := decide_eq_true (by omega)
                clear hR2
                go_wp2_with (first | (go_at_call 24; ((with_reducible refine (HQ2.out _ (by assumption)).mono ?_)); rintro e w1 ⟨rfl, hbw⟩) | (go_at_call 18; ((with_reducible refine (HR2.out _ (by assumption)).mono ?_)); rintro e w1 ⟨rfl, hbw⟩) | (go_at_call 12; ((with_reducible refine (HV2.out _ (by assumption)).mono ?_)); rintro e w1 ⟨rfl, hbw⟩) | (go_at_call 14; ((with_reducible refine (HC2.out _ (by assumption)).mono ?_)); rintro e w1 ⟨rfl, hbw⟩))
                go_ret
                exact ⟨rfl, hbw⟩
              · rw [decide_eq_false h24] at hR2
                have HR2 := Lib.hid hR2
                have h24' : decide ((a0.size : Int) ≤ 24) = false := decide_eq_false (by omega)
                clear hR2
                go_wp2_with (first | (go_at_call 24; ((with_reducible refine (HQ2.out _ (by assumption)).mono ?_)); rintro e w1 ⟨rfl, hbw⟩) | (go_at_call 18; ((with_reducible refine (HR2.out _ (by assumption)).mono ?_)); rintro e w1 ⟨rfl, hbw⟩) | (go_at_call 12; ((with_reducible refine (HV2.out _ (by assumption)).mono ?_)); rintro e w1 ⟨rfl, hbw⟩) | (go_at_call 14; ((with_reducible refine (HC2.out _ (by assumption)).mono ?_)); rintro e w1 ⟨rfl, hbw⟩))
                go_ret
                exact ⟨rfl, hbw⟩
  · have hs' : (400 : Int) < a0.size := by omega
    go_enter Tryd.func10, Tryd.ntmps10
    go_wp2_with ((go_at_call 11; ((with_reducible refine (HSh.out _ (by assumption)).mono ?_)); rintro e w1 ⟨rfl, hbw⟩))
    go_ret
    exact ⟨rfl, hbw⟩

set_option maxRecDepth 100000 in
theorem lifted (os : Os) (started : os.Started) (H : Type) (enc : TypeId × Value → H) :
    ReturnsInHanded {} Tryd.checked os 10 .any (fun w args => (Rows.labelPlainSpec.pre enc Tryd.prog Tryd.f10 [] false w args ∧ laidMetH Tryd.prog laid3 w) ∧ sizedMet enc Tryd.prog Tryd.f10 (OpenSpec.ofChange Rows.labelPlainSpec) false w args)
      (Rows.labelPlainSpec.post enc Tryd.prog Tryd.f10 false true false false) := by
  refine returnsInHanded_of_change_and (C := Tryd.checked) (X := fun w _ => laidMetH Tryd.prog laid3 w) (fun _ _ _ hh h => h.of_heap hh) own started (by kernel_rfl) Tryd.func10
    (ChangeSpec.witness_shaped (enc := enc) (C := Tryd.checked) (os := os) (X := fun w _ => laidMetH Tryd.prog laid3 w) false (World.doorLaid Tryd.prog 400 os) #[.string ByteArray.empty] 8 rfl (World.shaped_of_RefB (by kernel_rfl) (by kernel_rfl)) (by kernel_rfl) (by kernel_rfl) (by kernel_rfl) (door_met os _)) ?_
  intro W base args ds gs before hval0 hW _ _ hL _
  have hval : ∀ (j : Nat) t v, Tryd.f10.params[j]? = some t → args[j]? = some v → Value.okWide Tryd.prog W .any base t v := hval0
  have hW' := hW
  obtain ⟨p, q, hA0, hV, rfl, hfz, hnd⟩ := hW
  have hA : DataW.TrodAll enc Tryd.prog W 0 (fun _ => true) true Tryd.f10.params.toList args.toList ds p := hA0
  rw [Tryd.params10] at hA hval
  obtain ⟨v0, vs0, d0, ds0, p0, q0, hargs, rfl, rfl, h0, r0⟩ := trodAll_cons hA
  obtain ⟨rfl, rfl, rfl⟩ := trodAll_nil r0
  obtain rfl : args = #[v0] := by cases args; simp_all
  obtain ⟨rfl, rfl⟩ := trodVars_none hV
  obtain ⟨a0, rfl, rfl, rfl, w0⟩ := open_string Tryd.underlying9 (hval 0 9 v0 rfl rfl) h0
  clear hA0 hval0
  simp only [List.append_nil] at hW'
  refine (walk a0 w0 W (of_laid hL)).mono fun e W' ⟨he, hg⟩ => ?_
  subst he
  exact ⟨_, rfl, _, _, _, [], _, [], hW', trodAll_mk1 (shut_bool Tryd.underlying4 _), (trodAll_cons_mk (shut_string Tryd.underlying9 w0) trodAll_mk0), rfl, hg.frame _, fun h => by cases h⟩

theorem over : Rows.labelPlainRow.holds Tryd.pinned (OpenSpec.ofChange Rows.labelPlainSpec) :=
  OpenClaim.holds_of_wide 10 Tryd.f10 rfl rfl rfl rfl rfl rfl rfl ⟨rfl, rfl, rfl, rfl, rfl⟩ rfl rfl rfl rfl rfl (by kernel_rfl) Tryd.func10 (by kernel_rfl)
    (of_decide_eq_true (by kernel_rfl)) (by unfold Func.isWrapper; first | (rw [if_pos (by decide +kernel)]; kernel_rfl) | (rw [if_neg (by decide +kernel)]; exact ⟨rfl, rfl⟩))
    (fun os started H enc _ => lifted os started H enc)

theorem holds : Rows.LabelPlainCardSaid :=
  Claim7.holds_tied_plain_at .later [] [.data, .data, .data] true Rows.labelPlainCard.stood.harness Rows.labelPlainCard.stood.looks
    over (fun _ h => by cases h) (by kernel_rfl) (fun _ h => by cases h) labelPlain_row_tie rfl ⟨rfl, rfl⟩ (by kernel_rfl) rfl
    (fun f fn hf hfn => by
      obtain rfl : f = 10 := Option.some.inj (hf.symm.trans (by kernel_rfl))
      obtain rfl : fn = Tryd.f10 := (Option.some.inj (Tryd.func10.symm.trans hfn)).symm
      exact ⟨by kernel_rfl, fun j t ht => by
        rw [Tryd.params10] at ht
        have hm : t ∈ [9] := by simpa using Array.mem_of_getElem? ht
        have hall : ([9].all fun u => !Tryd.prog.wantsStandIn u) = true := by kernel_rfl
        exact (show Tryd.prog.wantsStandIn t = false by simpa using List.all_eq_true.1 hall t hm)⟩)
    (by kernel_rfl)

end Go.Proofs.YtghnjdbamenkgaaDoor.labelPlain
