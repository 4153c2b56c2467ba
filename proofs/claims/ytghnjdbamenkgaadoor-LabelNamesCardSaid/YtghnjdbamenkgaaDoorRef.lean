/-
  What the reference's Valid, Count, First and Right answer: the same as the cutting of a text's bytes says. Condition: the text has at most 2^40 bytes.
-/
import Derived.Test.YtghnjdbamenkgaaDoorRune
import Derived.Test.YtghnjdbamenkgaaDoorMathN
namespace Go.Proofs.YtghnjdbamenkgaaDoor
open Go.RowKit

/-- How long a string is, for a measure. -/
def szOf : Value → Nat
  | .string s => s.size
  | _ => 0

theorem size_mk (l : List UInt8) : (⟨l.toArray⟩ : ByteArray).size = l.length := by simp [ByteArray.size]

theorem Rune_rel (t : ByteArray) (h0 : 0 < t.size) (hs : t.size ≤ 1099511627776) (w : World) : ∀ w1, Below w.heap.size w w1 → Calls Tryd.prog 27 #[.string t] w1 fun e w' => e = .returned (.tuple #[.int .i64 (Rc1.rr t.data.toList).1, .int .i64 (Rc1.rr t.data.toList).2]) ∧ Below w.heap.size w w' :=
  fun w1 hb => (Rune_any t h0 hs w1).mono fun _ _ ⟨he, hw⟩ => ⟨he, below_trans hb hw⟩

theorem rr_bad {l : List UInt8} (h : Rc1.wr l = true) : Rc1.rr l = (-1, 1) := by
  have := Rc1.wr_high l h
  simp [Rc1.rr, h, this.2.1]
theorem rr_good {l : List UInt8} (h : Rc1.wr l = false) : Rc1.rr l = (((Rc1.dec l).1 : Int), ((Rc1.dec l).2 : Int)) := by
  simp [Rc1.rr, h]

set_option maxHeartbeats 1000000 in
theorem rValid_any (s : ByteArray) (hs : s.size ≤ 1099511627776) (w : World) :
    Calls Tryd.prog 13 #[.string s] w fun e w' => e = .returned (.bool (Rc1.valid s.data.toList)) ∧ Below w.heap.size w w' := by
  have hB := Below.refl w.heap.size w
  go_enter Tryd.func13, Tryd.ntmps13
  go_wp2
  go_loopw [0, 3, 4] (fun left _ _ wr => ∃ (t : ByteArray) (pos m : Nat), left = .string t ∧ Hid (t.data.toList = s.data.toList.drop pos) ∧ Rc1.At s.data.toList pos m ∧ Hid (((Rc1.cut s.data.toList).take m).all (fun c => !Rc1.wr c) = true) ∧ Below w.heap.size w wr) (fun left _ _ _ => szOf left)
  case atStart => exact ⟨s, 0, 0, rfl, rfl, Rc1.At.zero _, rfl, hB⟩
  case round =>
    obtain ⟨t, pos, m, rfl, ht, hA, hal, hbr⟩ := hrel
    have hps := hA.1
    rw [len_data] at hps
    have htz : t.size = s.size - pos := by rw [← len_data, ht.out, drop_size]
    have HTZ := Lib.hid htz
    have htl : t.size ≤ s.size := by omega
    have HA := Lib.hid hA
    have hie := isEmpty_of t
    clear hA htz hB
    by_cases hp : pos < s.size
    · have hne : t.data.toList ≠ [] := by rw [ht.out]; exact drop_ne hp
      have h0 : 0 < t.size := by have := HTZ.out; omega
      rw [decide_eq_false (by omega)] at hie
      have hdf := Rc1.dec_facts _ hne
      have hR := Rune_rel t h0 (by omega) w
      have hd1 := hdf.1
      have hd3 := hdf.2.2.1
      rw [len_data] at hd3
      clear hdf
      cases hw : Rc1.wr t.data.toList with
      | true =>
        rw [rr_bad hw] at hR
        have HR := Lib.hid hR
        have HW := Lib.hid hw
        clear hR hw hne
        go_wp2_with (go_at_call 27; ((with_reducible refine (HR.out _ (by assumption)).mono ?_)); rintro e w1 ⟨rfl, hbw⟩)
        go_ret
        refine ⟨?_, hbw⟩
        unfold Rc1.valid
        rw [HA.out.bad (by rw [len_data]; exact hp) _ Rc1.nwr_take (by rw [← ht.out, HW.out]; rfl)]
        rfl
      | false =>
        rw [rr_good hw] at hR
        have HR := Lib.hid hR
        have HW := Lib.hid hw
        clear hR hw hne
        go_wp2_with (go_at_call 27; ((with_reducible refine (HR.out _ (by assumption)).mono ?_)); rintro e w1 ⟨rfl, hbw⟩)
        go_roundw
        case rel =>
          refine ⟨_, pos + (Rc1.dec (s.data.toList.drop pos)).2, m + 1, rfl, ?_, HA.out.step (by rw [len_data]; exact hp), ?_, hbw⟩
          · show _ = _
            rw [extract_list, ht.out, List.drop_drop]
          · show _ = true
            rw [HA.out.all (by rw [len_data]; exact hp) _ Rc1.nwr_take, hal.out, ← ht.out, HW.out]; rfl
        case measure => simp [szOf]; omega
    · rw [decide_eq_true (by have := HTZ.out; omega)] at hie
      go_wp2
      go_ret
      refine ⟨?_, hbr⟩
      have := HA.out.over (by rw [len_data]; exact hp)
      have h2 := hal.out
      rw [this, List.take_length] at h2
      unfold Rc1.valid
      rw [h2]
      rfl

set_option maxHeartbeats 1000000 in
theorem rCount_any (s : ByteArray) (hs : s.size ≤ 1099511627776) (w : World) :
    Calls Tryd.prog 15 #[.string s] w fun e w' => e = .returned (.int .i64 (Rc1.count s.data.toList)) ∧ Below w.heap.size w w' := by
  have hB := Below.refl w.heap.size w
  go_enter Tryd.func15, Tryd.ntmps15
  go_wp2
  go_loopw [0, 3, 5] (fun left k _ wr => ∃ (t : ByteArray) (pos m : Nat), left = .string t ∧ k = .int .i64 m ∧ Hid (t.data.toList = s.data.toList.drop pos) ∧ Rc1.At s.data.toList pos m ∧ Below w.heap.size w wr) (fun left _ _ _ => szOf left)
  case atStart => exact ⟨s, 0, 0, rfl, rfl, rfl, Rc1.At.zero _, hB⟩
  case round =>
    obtain ⟨t, pos, m, rfl, rfl, ht, hA, hbr⟩ := hrel
    have hm := hA.2.2.1
    have hps := hA.1
    rw [len_data] at hps
    have htz : t.size = s.size - pos := by rw [← len_data, ht.out, drop_size]
    have HTZ := Lib.hid htz
    have htl : t.size ≤ s.size := by omega
    have HA := Lib.hid hA
    have hie := isEmpty_of t
    clear hA htz hB
    by_cases hp : pos < s.size
    · have hne : t.data.toList ≠ [] := by rw [ht.out]; exact drop_ne hp
      have h0 : 0 < t.size := by have := HTZ.out; omega
      rw [decide_eq_false (by omega)] at hie
      have hdf := Rc1.dec_facts _ hne
      have hR := Rune_rel t h0 (by omega) w
      have hd1 := hdf.1
      have hd3 := hdf.2.2.1
      rw [len_data] at hd3
      have hrr : (Rc1.rr t.data.toList).2 = ((Rc1.dec t.data.toList).2 : Int) := rfl
      rw [hrr] at hR
      have HR := Lib.hid hR
      clear hdf hR hne hrr
      go_wp2_with (go_at_call 27; ((with_reducible refine (HR.out _ (by assumption)).mono ?_)); rintro e w1 ⟨rfl, hbw⟩)
      go_roundw
      case rel =>
        refine ⟨_, pos + (Rc1.dec (s.data.toList.drop pos)).2, m + 1, rfl, by go_num, ?_, HA.out.step (by rw [len_data]; exact hp), hbw⟩
        show _ = _
        rw [extract_list, ht.out, List.drop_drop]
      case measure => simp [szOf]; omega
    · rw [decide_eq_true (by have := HTZ.out; omega)] at hie
      go_wp2
      go_ret
      refine ⟨?_, hbr⟩
      have := HA.out.over (by rw [len_data]; exact hp)
      rw [this]; rfl

theorem append_list (a b : ByteArray) : (a ++ b).data.toList = a.data.toList ++ b.data.toList := by simp [ByteArray.data_append]

theorem of_list {a : ByteArray} {l : List UInt8} (h : a.data.toList = l) : a = ⟨l.toArray⟩ := by
  apply ByteArray.ext; apply Array.ext'; rw [h]

set_option maxHeartbeats 1000000 in
theorem rFirst_any (s : ByteArray) (n : Int) (hs : s.size ≤ 1099511627776) (w : World) :
    Calls Tryd.prog 17 #[.string s, .int .i64 n] w fun e w' => e = .returned (.string ⟨(Rc1.first s.data.toList n.toNat).toArray⟩) ∧ Below w.heap.size w w' := by
  have hB := Below.refl w.heap.size w
  go_enter Tryd.func17, Tryd.ntmps17
  go_wp2
  go_loopw [0, 5, 6, 8] (fun left out k _ wr => ∃ (t o : ByteArray) (pos m : Nat), left = .string t ∧ out = .string o ∧ k = .int .i64 m ∧ Hid (t.data.toList = s.data.toList.drop pos) ∧ Hid (o.data.toList = Rc1.first s.data.toList m) ∧ Rc1.At s.data.toList pos m ∧ m ≤ n.toNat ∧ Below w.heap.size w wr) (fun left _ _ _ _ => szOf left)
  case atStart => exact ⟨s, ⟨#[]⟩, 0, 0, rfl, rfl, rfl, rfl, rfl, Rc1.At.zero _, Nat.zero_le _, hB⟩
  case round =>
    obtain ⟨t, o, pos, m, rfl, rfl, rfl, ht, ho, hA, hmn, hbr⟩ := hrel
    have hm := hA.2.2.1
    have hps := hA.1
    rw [len_data] at hps
    have htz : t.size = s.size - pos := by rw [← len_data, ht.out, drop_size]
    have HTZ := Lib.hid htz
    have htl : t.size ≤ s.size := by omega
    have HA := Lib.hid hA
    have hie := isEmpty_of t
    have hol : o.size ≤ s.size := by rw [← len_data, ho.out, ← len_data s]; exact Rc1.first_len _ _
    clear hA htz hB
    by_cases hge : n ≤ m
    · have e : m = n.toNat := by omega
      have HE := Lib.hid e
      have hge' : decide ((m : Int) < n) = false := decide_eq_false (by omega)
      clear e
      go_wp2
      go_ret
      refine ⟨?_, hbr⟩
      rw [← HE.out, ← ho.out, of_list (a := o) rfl]
      rfl
    · have hge' : decide ((m : Int) < n) = true := decide_eq_true (by omega)
      by_cases hp : pos < s.size
      · have hne : t.data.toList ≠ [] := by rw [ht.out]; exact drop_ne hp
        have h0 : 0 < t.size := by have := HTZ.out; omega
        rw [decide_eq_false (by omega)] at hie
        have hdf := Rc1.dec_facts _ hne
        have hR := Rune_rel t h0 (by omega) w
        have hd1 := hdf.1
        have hd3 := hdf.2.2.1
        rw [len_data] at hd3
        have hrr : (Rc1.rr t.data.toList).2 = ((Rc1.dec t.data.toList).2 : Int) := rfl
        rw [hrr] at hR
        have HR := Lib.hid hR
        have hcl : (t.extract 0 (Rc1.dec t.data.toList).2).size ≤ 4 := by rw [extract_take, size_mk, List.length_take]; have := hdf.2.1; omega
        have hd4 := hdf.2.1
        clear hdf hR hne hrr
        go_wp2_with (go_at_call 27; ((with_reducible refine (HR.out _ (by assumption)).mono ?_)); rintro e w1 ⟨rfl, hbw⟩)
        go_roundw
        case rel =>
          refine ⟨_, _, pos + (Rc1.dec (s.data.toList.drop pos)).2, m + 1, rfl, rfl, by go_num, ?_, ?_, HA.out.step (by rw [len_data]; exact hp), by omega, hbw⟩
          · show _ = _
            rw [extract_list, ht.out, List.drop_drop]
          · show _ = _
            rw [append_list, extract_take, ho.out, ← (HA.out.step (by rw [len_data]; exact hp)).first, ← HA.out.first, List.take_add, ht.out]
        case measure => simp [szOf]; omega
      · rw [decide_eq_true (by have := HTZ.out; omega)] at hie
        have hmc := HA.out.over (by rw [len_data]; exact hp)
        have HMC := Lib.hid hmc
        clear hmc
        go_wp2
        go_ret
        refine ⟨?_, hbr⟩
        have h1 := ho.out
        rw [Rc1.first_all _ m (by rw [HMC.out]; exact Nat.le_refl _)] at h1
        rw [Rc1.first_all _ _ (by have := HMC.out; unfold Rc1.count; omega), ← h1, of_list (a := o) rfl]
        rfl

def bt_ok (l : List UInt8) (k : Nat) : Bool := decide (32 ≤ Rc1.bt l k) && !decide (Rc1.bt l k = 127)

theorem okB_bad {l : List UInt8} {k : Nat} (h : k < l.length) (hb : bt_ok l k = false) : l.all Rc1.okB = false := by
  rw [List.all_eq_false]
  exact ⟨l[k], List.getElem_mem h, by rw [show Rc1.okB l[k] = bt_ok l k by unfold Rc1.okB bt_ok; rw [Rc1.bt_get l k h], hb]; simp⟩

theorem okB_step {l : List UInt8} {k : Nat} (h : k < l.length) (hb : bt_ok l k = true) (ha : (l.take k).all Rc1.okB = true) : (l.take (k + 1)).all Rc1.okB = true := by
  rw [List.take_succ_eq_append_getElem h, List.all_append, ha]
  simp only [List.all_cons, List.all_nil, Bool.and_true, Bool.true_and]
  rw [show Rc1.okB l[k] = bt_ok l k by unfold Rc1.okB bt_ok; rw [Rc1.bt_get l k h], hb]

set_option maxHeartbeats 1000000 in
theorem rRight_any (s : ByteArray) (hs : s.size ≤ 1099511627776) (w : World) :
    Calls Tryd.prog 19 #[.string s] w fun e w' => e = .returned (.bool (Rc1.right s.data.toList)) ∧ Below w.heap.size w w' := by
  have hB := Below.refl w.heap.size w
  have HRE := Lib.hid (Rc1.right_eq s.data.toList)
  have hV : ∀ w1, Below w.heap.size w w1 → Calls Tryd.prog 13 #[.string s] w1 fun e w' => e = .returned (.bool (Rc1.valid s.data.toList)) ∧ Below w.heap.size w w' := fun w1 hb => (rValid_any s hs w1).mono fun _ _ ⟨he, hw⟩ => ⟨he, below_trans hb hw⟩
  have hC : ∀ w1, Below w.heap.size w w1 → Calls Tryd.prog 15 #[.string s] w1 fun e w' => e = .returned (.int .i64 (Rc1.count s.data.toList)) ∧ Below w.heap.size w w' := fun w1 hb => (rCount_any s hs w1).mono fun _ _ ⟨he, hw⟩ => ⟨he, below_trans hb hw⟩
  have hcl : Rc1.count s.data.toList ≤ s.size := by have := Rc1.cut_len_le s.data.toList; rw [len_data] at this; exact this
  have hie := isEmpty_of s
  cases hv : Rc1.valid s.data.toList with
  | false =>
    rw [hv] at hV
    have HV := Lib.hid hV
    have HVV := Lib.hid hv
    clear hV hC hv hie hcl
    go_enter Tryd.func19, Tryd.ntmps19
    go_wp2_with (go_at_call 13; ((with_reducible refine (HV.out _ (by assumption)).mono ?_)); rintro e w1 ⟨rfl, hbw⟩)
    go_ret
    refine ⟨?_, hbw⟩
    rw [HRE.out, HVV.out]; simp
  | true =>
    rw [hv] at hV
    have HV := Lib.hid hV
    have HVV := Lib.hid hv
    clear hV hv
    by_cases h0 : s.size = 0
    · rw [decide_eq_true h0] at hie
      have H0 := Lib.hid (nil_of s h0)
      clear hC h0 hcl
      go_enter Tryd.func19, Tryd.ntmps19
      go_wp2_with (go_at_call 13; ((with_reducible refine (HV.out _ (by assumption)).mono ?_)); rintro e w1 ⟨rfl, hbw⟩)
      go_ret
      refine ⟨?_, hbw⟩
      rw [H0.out]; rfl
    · rw [decide_eq_false h0] at hie
      have hz : 0 < s.size := by omega
      have hz' : (0 : Int) < s.size := by omega
      have hz1 : s.size - 1 < s.size := by omega
      have hc1 : 1 ≤ Rc1.count s.data.toList := Rc1.count_pos _ (by intro e; have := congrArg List.length e; rw [len_data] at this; exact h0 this)
      have B0 := Lib.hid (get_bt s 0 hz)
      have B1 := Lib.hid (get_bt s (s.size - 1) hz1)
      generalize hcc : Rc1.count s.data.toList = c at hC hcl hc1
      have HCC := Lib.hid hcc
      have HC := Lib.hid hC
      clear hC hcc
      by_cases h24 : c ≤ 24
      · have h24' : decide ((24 : Int) < c) = false := decide_eq_false (by omega)
        cases e0 : (((s[0]'hz).toNat : Int) == 32) with
        | true =>
          go_enter Tryd.func19, Tryd.ntmps19
          go_wp2_with (first | (go_at_call 13; ((with_reducible refine (HV.out _ (by assumption)).mono ?_)); rintro e w1 ⟨rfl, hbw⟩) | (go_at_call 15; ((with_reducible refine (HC.out _ (by assumption)).mono ?_)); rintro e w1 ⟨rfl, hbw⟩))
          go_ret
          refine ⟨?_, hbw⟩
          rw [HRE.out, B0.out, decide_eq_false (show ¬ (s[0]'hz).toNat ≠ 32 by rw [beq_iff_eq] at e0; omega)]; simp
        | false =>
          cases e1 : (((s[s.size - 1]'hz1).toNat : Int) == 32) with
          | true =>
            go_enter Tryd.func19, Tryd.ntmps19
            go_wp2_with (first | (go_at_call 13; ((with_reducible refine (HV.out _ (by assumption)).mono ?_)); rintro e w1 ⟨rfl, hbw⟩) | (go_at_call 15; ((with_reducible refine (HC.out _ (by assumption)).mono ?_)); rintro e w1 ⟨rfl, hbw⟩))
            go_ret
            refine ⟨?_, hbw⟩
            rw [HRE.out, len_data, B1.out, decide_eq_false (show ¬ (s[s.size - 1]'hz1).toNat ≠ 32 by rw [beq_iff_eq] at e1; omega)]; simp
          | false =>
            have HF := Lib.hid (show Rc1.right s.data.toList = s.data.toList.all Rc1.okB by
              rw [HRE.out, len_data, B1.out, B0.out, HVV.out, HCC.out, decide_eq_true (show 1 ≤ c ∧ c ≤ 24 by omega), decide_eq_true (show (s[0]'hz).toNat ≠ 32 by rw [beq_eq_false_iff_ne] at e0; omega), decide_eq_true (show (s[s.size - 1]'hz1).toNat ≠ 32 by rw [beq_eq_false_iff_ne] at e1; omega)]; simp)
            go_enter Tryd.func19, Tryd.ntmps19
            go_wp2_with (first | (go_at_call 13; ((with_reducible refine (HV.out _ (by assumption)).mono ?_)); rintro e w1 ⟨rfl, hbw⟩) | (go_at_call 15; ((with_reducible refine (HC.out _ (by assumption)).mono ?_)); rintro e w1 ⟨rfl, hbw⟩))
            clear e0 e1
            go_loop [4] (fun i => ∃ k : Nat, k ≤ s.size ∧ i = .int .i64 k ∧ Hid ((s.data.toList.take k).all Rc1.okB = true)) (fun i => s.size - (intOf i).toNat)
            case atStart => exact ⟨0, Nat.zero_le _, rfl, rfl⟩
            case round =>
              obtain ⟨k, hk, rfl, hal⟩ := hrel
              by_cases hlt : k < s.size
              · have hlt' : (k : Int) < s.size := by omega
                have GB := Lib.hid (get_bt s k hlt)
                have hll : k < s.data.toList.length := by rw [len_data]; exact hlt
                have HLL := Lib.hid hll
                clear hll
                by_cases c1 : (s[k]'hlt).toNat < 32
                · have c1' : decide (((s[k]'hlt).toNat : Int) < 32) = true := decide_eq_true (by omega)
                  go_wp2
                  go_ret
                  refine ⟨?_, hbw⟩
                  rw [HF.out, okB_bad HLL.out (by unfold bt_ok; rw [GB.out, decide_eq_false (by omega)]; rfl)]; rfl
                · have c1' : decide (((s[k]'hlt).toNat : Int) < 32) = false := decide_eq_false (by omega)
                  cases c2 : (((s[k]'hlt).toNat : Int) == 127) with
                  | true =>
                    go_wp2
                    go_ret
                    refine ⟨?_, hbw⟩
                    rw [HF.out, okB_bad HLL.out (by unfold bt_ok; rw [GB.out, decide_eq_true (show (s[k]'hlt).toNat = 127 by rw [beq_iff_eq] at c2; omega)]; simp)]; rfl
                  | false =>
                    go_wp2
                    go_round
                    case rel =>
                      refine ⟨k + 1, by omega, by go_num, ?_⟩
                      exact okB_step HLL.out (by unfold bt_ok; rw [GB.out, decide_eq_true (show 32 ≤ (s[k]'hlt).toNat by omega), decide_eq_false (show ¬ (s[k]'hlt).toNat = 127 by rw [beq_eq_false_iff_ne] at c2; omega)]; rfl) hal.out
                    case measure => simp [intOf]; omega
              · go_wp2
                go_ret
                refine ⟨?_, hbw⟩
                have h2 := hal.out
                rw [List.take_of_length_le (by rw [len_data]; omega)] at h2
                rw [HF.out, h2]; rfl
      · have h24' : decide ((24 : Int) < c) = true := decide_eq_true (by omega)
        have H24 := Lib.hid h24
        clear h24
        go_enter Tryd.func19, Tryd.ntmps19
        go_wp2_with (first | (go_at_call 13; ((with_reducible refine (HV.out _ (by assumption)).mono ?_)); rintro e w1 ⟨rfl, hbw⟩) | (go_at_call 15; ((with_reducible refine (HC.out _ (by assumption)).mono ?_)); rintro e w1 ⟨rfl, hbw⟩))
        go_ret
        refine ⟨?_, hbw⟩
        rw [right_long (by rw [HCC.out]; have := H24.out; omega)]
        rfl

end Go.Proofs.YtghnjdbamenkgaaDoor
