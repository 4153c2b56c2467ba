/-
  Whether a text may be a name, as the document itself answers it. Condition: the text has at most as many bytes as a text may have.
  Contracts as they are asked for inside a region that draws its order; how many sectors a size needs, as the document says it. Conditions: as each theorem states them.
  Whether a file is well: the program's word and the document's own. Conditions: the file's numbers are such as its fields may hold; the document's own is asked only of rows of at most a hundred thousand spans.
  What the writing methods of a strings.Builder do, over this program: the builder holds what it held and the bytes behind; what else was there stays (the rows of bytes aside). Conditions: the builder lies in memory as made by its zero value and these methods; the new length is at most 2^47.
  The check sum by bits, as plain mathematics over natural numbers: one step, many steps, bytes, turned bits. Conditions: none.
  What seal.shifted answers: the register behind four steps. Condition: the register is below 2^32.
-/
import Derived.Test.YteellffkjjllgaaGreatG1
import Derived.Test.YteellffkjjllgaaGreatG2
import Derived.Test.YteellffkjjllgaaGreatG3
import Derived.Test.YteellffkjjllgaaGreatG5
import Derived.Test.YteellffkjjllgaaGreatG6
import Derived.BigQuiet
import Derived.WalkKit
import Derived.WalkSpells
import Derived.BigCall
import Derived.Test.YteellffkjjllgaaGreatChecked
import Derived.Below
import Derived.Lib.Hide
import Derived.Laws.BitsAllLaws
namespace Go.Proofs.YteellffkjjllgaaGreat
open Go.RowKit

/-- How long a string is, for a measure. -/
def szOf : Value → Nat
  | .string s => s.size
  | _ => 0

theorem size_mk (l : List UInt8) : (⟨l.toArray⟩ : ByteArray).size = l.length := by simp [ByteArray.size]

theorem Rune_rel (t : ByteArray) (h0 : 0 < t.size) (hs : t.size ≤ 140737488355328) (w : World) : ∀ w1, Below w.heap.size w w1 → Calls Tryz.prog 87 #[.string t] w1 fun e w' => e = .returned (.tuple #[.int .i64 (Rc1.rr t.data.toList).1, .int .i64 (Rc1.rr t.data.toList).2]) ∧ Below w.heap.size w w' :=
  fun w1 hb => (Rune_any t h0 hs w1).mono fun _ _ ⟨he, hw⟩ => ⟨he, below_trans hb hw⟩

theorem rr_bad {l : List UInt8} (h : Rc1.wr l = true) : Rc1.rr l = (-1, 1) := by
  have := Rc1.wr_high l h
  simp [Rc1.rr, h, this.2.1]
theorem rr_good {l : List UInt8} (h : Rc1.wr l = false) : Rc1.rr l = (((Rc1.dec l).1 : Int), ((Rc1.dec l).2 : Int)) := by
  simp [Rc1.rr, h]

set_option maxHeartbeats 1000000 in
theorem rValid_any (s : ByteArray) (hs : s.size ≤ 140737488355328) (w : World) :
    Calls Tryz.prog 80 #[.string s] w fun e w' => e = .returned (.bool (Rc1.valid s.data.toList)) ∧ Below w.heap.size w w' := by
  have hB := Below.refl w.heap.size w
  go_enter Tryz.func80, Tryz.ntmps80
  go_wp2
  go_loopw [0, 3, 4] (fun left _ _ wr => ∃ (t : ByteArray) (pos m : Nat), left = .string t ∧ Hid (t.data.toList = s.data.toList.drop pos) ∧ Rc1.At s.data.toList pos m ∧ Hid (((Rc1.cut s.data.toList).take m).all (fun c => !Rc1.wr c) = true) ∧ Below w.heap.size w wr) (fun left _ _ _ => szOf left)
  case atStart => exact ⟨s, 0, 0, rfl, rfl, Rc1.At.zero _, rfl, hB⟩
  case round =>
    obtain ⟨t, pos, m, rfl, ht, hA, hal, hbr⟩ := hrel
    have hps := hA.1
    rw [len_data] at hps
    have htz : t.size = s.size - pos := by rw [← len_data, ht.out, drop_size]
    have HTZ := Lib.hid htz
    have htl : t.size ≤ s.size := by omega
    have HA := Lib.hid hA
    have hie := isEmpty_of t
    clear hA htz hB
    by_cases hp : pos < s.size
    · have hne : t.data.toList ≠ [] := by rw [ht.out]; exact drop_ne hp
      have h0 : 0 < t.size := by have := HTZ.out; omega
      rw [decide_eq_false (by omega)] at hie
      have hdf := Rc1.dec_facts _ hne
      have hR := Rune_rel t h0 (by omega) w
      have hd1 := hdf.1
      have hd3 := hdf.2.2.1
      rw [len_data] at hd3
      clear hdf
      cases hw : Rc1.wr t.data.toList with
      | true =>
        rw [rr_bad hw] at hR
        have HR := Lib.hid hR
        have HW := Lib.hid hw
        clear hR hw hne
        go_wp2_with (go_at_call 87; ((with_reducible refine (HR.out _ (by assumption)).mono ?_)); rintro e w1 ⟨rfl, hbw⟩)
        go_ret
        refine ⟨?_, hbw⟩
        unfold Rc1.valid
        rw [HA.out.bad (by rw [len_data]; exact hp) _ Rc1.nwr_take (by rw [← ht.out, HW.out]; rfl)]
        rfl
      | false =>
        rw [rr_good hw] at hR
        have HR := Lib.hid hR
        have HW := Lib.hid hw
        clear hR hw hne
        go_wp2_with (go_at_call 87; ((with_reducible refine (HR.out _ (by assumption)).mono ?_)); rintro e w1 ⟨rfl, hbw⟩)
        go_roundw
        case rel =>
          refine ⟨_, pos + (Rc1.dec (s.data.toList.drop pos)).2, m + 1, rfl, ?_, HA.out.step (by rw [len_data]; exact hp), ?_, hbw⟩
          · show _ = _
            rw [extract_list, ht.out, List.drop_drop]
          · show _ = true
            rw [HA.out.all (by rw [len_data]; exact hp) _ Rc1.nwr_take, hal.out, ← ht.out, HW.out]; rfl
        case measure => simp [szOf]; omega
    · rw [decide_eq_true (by have := HTZ.out; omega)] at hie
      go_wp2
      go_ret
      refine ⟨?_, hbr⟩
      have := HA.out.over (by rw [len_data]; exact hp)
      have h2 := hal.out
      rw [this, List.take_length] at h2
      unfold Rc1.valid
      rw [h2]
      rfl

set_option maxHeartbeats 1000000 in
theorem rCount_any (s : ByteArray) (hs : s.size ≤ 140737488355328) (w : World) :
    Calls Tryz.prog 81 #[.string s] w fun e w' => e = .returned (.int .i64 (Rc1.count s.data.toList)) ∧ Below w.heap.size w w' := by
  have hB := Below.refl w.heap.size w
  go_enter Tryz.func81, Tryz.ntmps81
  go_wp2
  go_loopw [0, 3, 5] (fun left k _ wr => ∃ (t : ByteArray) (pos m : Nat), left = .string t ∧ k = .int .i64 m ∧ Hid (t.data.toList = s.data.toList.drop pos) ∧ Rc1.At s.data.toList pos m ∧ Below w.heap.size w wr) (fun left _ _ _ => szOf left)
  case atStart => exact ⟨s, 0, 0, rfl, rfl, rfl, Rc1.At.zero _, hB⟩
  case round =>
    obtain ⟨t, pos, m, rfl, rfl, ht, hA, hbr⟩ := hrel
    have hm := hA.2.2.1
    have hps := hA.1
    rw [len_data] at hps
    have htz : t.size = s.size - pos := by rw [← len_data, ht.out, drop_size]
    have HTZ := Lib.hid htz
    have htl : t.size ≤ s.size := by omega
    have HA := Lib.hid hA
    have hie := isEmpty_of t
    clear hA htz hB
    by_cases hp : pos < s.size
    · have hne : t.data.toList ≠ [] := by rw [ht.out]; exact drop_ne hp
      have h0 : 0 < t.size := by have := HTZ.out; omega
      rw [decide_eq_false (by omega)] at hie
      have hdf := Rc1.dec_facts _ hne
      have hR := Rune_rel t h0 (by omega) w
      have hd1 := hdf.1
      have hd3 := hdf.2.2.1
      rw [len_data] at hd3
      have hrr : (Rc1.rr t.data.toList).2 = ((Rc1.dec t.data.toList).2 : Int) := rfl
      rw [hrr] at hR
      have HR := Lib.hid hR
      clear hdf hR hne hrr
      go_wp2_with (go_at_call 87; ((with_reducible refine (HR.out _ (by assumption)).mono ?_)); rintro e w1 ⟨rfl, hbw⟩)
      go_roundw
      case rel =>
        refine ⟨_, pos + (Rc1.dec (s.data.toList.drop pos)).2, m + 1, rfl, by go_num, ?_, HA.out.step (by rw [len_data]; exact hp), hbw⟩
        show _ = _
        rw [extract_list, ht.out, List.drop_drop]
      case measure => simp [szOf]; omega
    · rw [decide_eq_true (by have := HTZ.out; omega)] at hie
      go_wp2
      go_ret
      refine ⟨?_, hbr⟩
      have := HA.out.over (by rw [len_data]; exact hp)
      rw [this]; rfl

theorem append_list (a b : ByteArray) : (a ++ b).data.toList = a.data.toList ++ b.data.toList := by simp [ByteArray.data_append]

theorem of_list {a : ByteArray} {l : List UInt8} (h : a.data.toList = l) : a = ⟨l.toArray⟩ := by
  apply ByteArray.ext; apply Array.ext'; rw [h]

def bt_ok (l : List UInt8) (k : Nat) : Bool := decide (32 ≤ Rc1.bt l k) && !decide (Rc1.bt l k = 127)

theorem okB_bad {l : List UInt8} {k : Nat} (h : k < l.length) (hb : bt_ok l k = false) : l.all Rc1.okB = false := by
  rw [List.all_eq_false]
  exact ⟨l[k], List.getElem_mem h, by rw [show Rc1.okB l[k] = bt_ok l k by unfold Rc1.okB bt_ok; rw [Rc1.bt_get l k h], hb]; simp⟩

theorem okB_step {l : List UInt8} {k : Nat} (h : k < l.length) (hb : bt_ok l k = true) (ha : (l.take k).all Rc1.okB = true) : (l.take (k + 1)).all Rc1.okB = true := by
  rw [List.take_succ_eq_append_getElem h, List.all_append, ha]
  simp only [List.all_cons, List.all_nil, Bool.and_true, Bool.true_and]
  rw [show Rc1.okB l[k] = bt_ok l k by unfold Rc1.okB bt_ok; rw [Rc1.bt_get l k h], hb]

set_option maxHeartbeats 1000000 in
theorem rRight_any (s : ByteArray) (hs : s.size ≤ 140737488355328) (w : World) :
    Calls Tryz.prog 60 #[.string s] w fun e w' => e = .returned (.bool (Rc1.right s.data.toList)) ∧ Below w.heap.size w w' := by
  have hB := Below.refl w.heap.size w
  have HRE := Lib.hid (Rc1.right_eq s.data.toList)
  have hV : ∀ w1, Below w.heap.size w w1 → Calls Tryz.prog 80 #[.string s] w1 fun e w' => e = .returned (.bool (Rc1.valid s.data.toList)) ∧ Below w.heap.size w w' := fun w1 hb => (rValid_any s hs w1).mono fun _ _ ⟨he, hw⟩ => ⟨he, below_trans hb hw⟩
  have hC : ∀ w1, Below w.heap.size w w1 → Calls Tryz.prog 81 #[.string s] w1 fun e w' => e = .returned (.int .i64 (Rc1.count s.data.toList)) ∧ Below w.heap.size w w' := fun w1 hb => (rCount_any s hs w1).mono fun _ _ ⟨he, hw⟩ => ⟨he, below_trans hb hw⟩
  have hcl : Rc1.count s.data.toList ≤ s.size := by have := Rc1.cut_len_le s.data.toList; rw [len_data] at this; exact this
  have hie := isEmpty_of s
  cases hv : Rc1.valid s.data.toList with
  | false =>
    rw [hv] at hV
    have HV := Lib.hid hV
    have HVV := Lib.hid hv
    clear hV hC hv hie hcl
    go_enter Tryz.func60, Tryz.ntmps60
    go_wp2_with (go_at_call 80; ((with_reducible refine (HV.out _ (by assumption)).mono ?_)); rintro e w1 ⟨rfl, hbw⟩)
    go_ret
    refine ⟨?_, hbw⟩
    rw [HRE.out, HVV.out]; simp
  | true =>
    rw [hv] at hV
    have HV := Lib.hid hV
    have HVV := Lib.hid hv
    clear hV hv
    by_cases h0 : s.size = 0
    · rw [decide_eq_true h0] at hie
      have H0 := Lib.hid (nil_of s h0)
      clear hC h0 hcl
      go_enter Tryz.func60, Tryz.ntmps60
      go_wp2_with (go_at_call 80; ((with_reducible refine (HV.out _ (by assumption)).mono ?_)); rintro e w1 ⟨rfl, hbw⟩)
      go_ret
      refine ⟨?_, hbw⟩
      rw [H0.out]; rfl
    · rw [decide_eq_false h0] at hie
      have hz : 0 < s.size := by omega
      have hz' : (0 : Int) < s.size := by omega
      have hz1 : s.size - 1 < s.size := by omega
      have hc1 : 1 ≤ Rc1.count s.data.toList := Rc1.count_pos _ (by intro e; have := congrArg List.length e; rw [len_data] at this; exact h0 this)
      have B0 := Lib.hid (get_bt s 0 hz)
      have B1 := Lib.hid (get_bt s (s.size - 1) hz1)
      generalize hcc : Rc1.count s.data.toList = c at hC hcl hc1
      have HCC := Lib.hid hcc
      have HC := Lib.hid hC
      clear hC hcc
      by_cases h24 : c ≤ 24
      · have h24' : decide ((24 : Int) < c) = false := decide_eq_false (by omega)
        cases e0 : (((s[0]'hz).toNat : Int) == 32) with
        | true =>
          go_enter Tryz.func60, Tryz.ntmps60
          go_wp2_with (first | (go_at_call 80; ((with_reducible refine (HV.out _ (by assumption)).mono ?_)); rintro e w1 ⟨rfl, hbw⟩) | (go_at_call 81; ((with_reducible refine (HC.out _ (by assumption)).mono ?_)); rintro e w1 ⟨rfl, hbw⟩))
          go_ret
          refine ⟨?_, hbw⟩
          rw [HRE.out, B0.out, decide_eq_false (show ¬ (s[0]'hz).toNat ≠ 32 by rw [beq_iff_eq] at e0; omega)]; simp
        | false =>
          cases e1 : (((s[s.size - 1]'hz1).toNat : Int) == 32) with
          | true =>
            go_enter Tryz.func60, Tryz.ntmps60
            go_wp2_with (first | (go_at_call 80; ((with_reducible refine (HV.out _ (by assumption)).mono ?_)); rintro e w1 ⟨rfl, hbw⟩) | (go_at_call 81; ((with_reducible refine (HC.out _ (by assumption)).mono ?_)); rintro e w1 ⟨rfl, hbw⟩))
            go_ret
            refine ⟨?_, hbw⟩
            rw [HRE.out, len_data, B1.out, decide_eq_false (show ¬ (s[s.size - 1]'hz1).toNat ≠ 32 by rw [beq_iff_eq] at e1; omega)]; simp
          | false =>
            have HF := Lib.hid (show Rc1.right s.data.toList = s.data.toList.all Rc1.okB by
              rw [HRE.out, len_data, B1.out, B0.out, HVV.out, HCC.out, decide_eq_true (show 1 ≤ c ∧ c ≤ 24 by omega), decide_eq_true (show (s[0]'hz).toNat ≠ 32 by rw [beq_eq_false_iff_ne] at e0; omega), decide_eq_true (show (s[s.size - 1]'hz1).toNat ≠ 32 by rw [beq_eq_false_iff_ne] at e1; omega)]; simp)
            go_enter Tryz.func60, Tryz.ntmps60
            go_wp2_with (first | (go_at_call 80; ((with_reducible refine (HV.out _ (by assumption)).mono ?_)); rintro e w1 ⟨rfl, hbw⟩) | (go_at_call 81; ((with_reducible refine (HC.out _ (by assumption)).mono ?_)); rintro e w1 ⟨rfl, hbw⟩))
            clear e0 e1
            go_loop [4] (fun i => ∃ k : Nat, k ≤ s.size ∧ i = .int .i64 k ∧ Hid ((s.data.toList.take k).all Rc1.okB = true)) (fun i => s.size - (intOf i).toNat)
            case atStart => exact ⟨0, Nat.zero_le _, rfl, rfl⟩
            case round =>
              obtain ⟨k, hk, rfl, hal⟩ := hrel
              by_cases hlt : k < s.size
              · have hlt' : (k : Int) < s.size := by omega
                have GB := Lib.hid (get_bt s k hlt)
                have hll : k < s.data.toList.length := by rw [len_data]; exact hlt
                have HLL := Lib.hid hll
                clear hll
                by_cases c1 : (s[k]'hlt).toNat < 32
                · have c1' : decide (((s[k]'hlt).toNat : Int) < 32) = true := decide_eq_true (by omega)
                  go_wp2
                  go_ret
                  refine ⟨?_, hbw⟩
                  rw [HF.out, okB_bad HLL.out (by unfold bt_ok; rw [GB.out, decide_eq_false (by omega)]; rfl)]; rfl
                · have c1' : decide (((s[k]'hlt).toNat : Int) < 32) = false := decide_eq_false (by omega)
                  cases c2 : (((s[k]'hlt).toNat : Int) == 127) with
                  | true =>
                    go_wp2
                    go_ret
                    refine ⟨?_, hbw⟩
                    rw [HF.out, okB_bad HLL.out (by unfold bt_ok; rw [GB.out, decide_eq_true (show (s[k]'hlt).toNat = 127 by rw [beq_iff_eq] at c2; omega)]; simp)]; rfl
                  | false =>
                    go_wp2
                    go_round
                    case rel =>
                      refine ⟨k + 1, by omega, by go_num, ?_⟩
                      exact okB_step HLL.out (by unfold bt_ok; rw [GB.out, decide_eq_true (show 32 ≤ (s[k]'hlt).toNat by omega), decide_eq_false (show ¬ (s[k]'hlt).toNat = 127 by rw [beq_eq_false_iff_ne] at c2; omega)]; rfl) hal.out
                    case measure => simp [intOf]; omega
              · go_wp2
                go_ret
                refine ⟨?_, hbw⟩
                have h2 := hal.out
                rw [List.take_of_length_le (by rw [len_data]; omega)] at h2
                rw [HF.out, h2]; rfl
      · have h24' : decide ((24 : Int) < c) = true := decide_eq_true (by omega)
        have H24 := Lib.hid h24
        clear h24
        go_enter Tryz.func60, Tryz.ntmps60
        go_wp2_with (first | (go_at_call 80; ((with_reducible refine (HV.out _ (by assumption)).mono ?_)); rintro e w1 ⟨rfl, hbw⟩) | (go_at_call 81; ((with_reducible refine (HC.out _ (by assumption)).mono ?_)); rintro e w1 ⟨rfl, hbw⟩))
        go_ret
        refine ⟨?_, hbw⟩
        rw [right_long (by rw [HCC.out]; have := H24.out; omega)]
        rfl

end Go.Proofs.YteellffkjjllgaaGreat

namespace Go.Rc6
open Go.Rc5

theorem beq_dec (t n : Int) : (t == n) = decide (t = n) := by
  rw [Bool.eq_iff_iff]
  simp

end Go.Rc6
namespace Go.Proofs.YteellffkjjllgaaGreat
open Go.RowKit Go.Rc5 Go.Rc6

set_option maxHeartbeats 1000000 in
theorem needR_any (z : Nat) (hz : z ≤ 9223372036854775807) (w : World) : Calls Tryz.prog 63 #[.int .i64 (z : Int)] w fun e w' => e = .returned (.int .i64 (need z)) ∧ w' = w := by
  have hn : need z = z / 64 + if z % 64 > 0 then 1 else 0 := rfl
  by_cases h : z % 64 = 0
  · rw [if_neg (by omega)] at hn
    have HN := Lib.hid hn
    have h1 : ¬ 0 < (z : Int) % 64 := by omega
    clear h hn
    go_enter Tryz.func63, Tryz.ntmps63
    go_wp2
    go_ret
    rw [HN.out]
    exact ⟨by simp, rfl⟩
  · rw [if_pos (by omega)] at hn
    have HN := Lib.hid hn
    have h1 : 0 < (z : Int) % 64 := by omega
    have h2 : (z : Int) / 64 ≤ 9223372036854775806 := by omega
    clear h hn
    go_enter Tryz.func63, Tryz.ntmps63
    go_wp2
    go_ret
    rw [HN.out]
    exact ⟨by simp, rfl⟩

theorem after_of {f : Nat} {args : Array Value} {v : Value} {W : World} (h : ∀ w, Below W.heap.size W w → Calls Tryz.prog f args w fun e w' => e = .returned v ∧ Below w.heap.size w w') (p : After W) :
    Calls Tryz.prog f args p.to fun e w' => e = .returned v ∧ ∃ q : After W, w' = q.to :=
  (h p.to p.is).mono fun _ w' ⟨he, hw⟩ => ⟨he, ⟨w', p.is.trans (hw.mono p.is.size)⟩, rfl⟩

theorem after_eq {f : Nat} {args : Array Value} {v : Value} {W : World} (h : ∀ w, Below W.heap.size W w → Calls Tryz.prog f args w fun e w' => e = .returned v ∧ w' = w) (p : After W) :
    Calls Tryz.prog f args p.to fun e w' => e = .returned v ∧ ∃ q : After W, w' = q.to :=
  (h p.to p.is).mono fun _ _ ⟨he, hw⟩ => ⟨he, p, hw⟩

theorem after_eq' {f : Nat} {args : Array Value} {v : Value} {W : World} (h : ∀ w, Below W.heap.size W w → Calls Tryz.prog f args w fun e w' => e = .returned v ∧ w = w') (p : After W) :
    Calls Tryz.prog f args p.to fun e w' => e = .returned v ∧ ∃ q : After W, w' = q.to :=
  (h p.to p.is).mono fun _ _ ⟨he, hw⟩ => ⟨he, p, hw.symm⟩

end Go.Proofs.YteellffkjjllgaaGreat

namespace Go.Rc7
open Go.Rc5 Go.Rc6

/-- What is known of a file's numbers. -/
structure FlOk (f : Fl) : Prop where
  name : f.name.size ≤ 9223372036854775807
  size : In64 f.size
  spans : ∀ s ∈ f.spans, In64 s.1 ∧ In64 s.2

open Classical in
noncomputable def wellB (f : Fl) : Bool := decide (Well f)

theorem wellB_iff (f : Fl) : wellB f = true ↔ Well f := by simp [wellB]

theorem wellB_of {f : Fl} {b : Bool} (h : b = true ↔ Well f) : b = wellB f := by
  rw [Bool.eq_iff_iff, wellB_iff]
  exact h

theorem well_dir {L : List Fl} (h : Dir L) : ∀ f ∈ L, FlOk f := fun f hf => by
  have hw := h.well f hf
  have h1 := hw.name_le
  have h2 := hw.lo
  have h3 := hw.hi
  refine ⟨by omega, ⟨by omega, by omega⟩, fun s hs => ?_⟩
  have := hw.span s hs
  exact ⟨⟨by omega, by omega⟩, ⟨by omega, by omega⟩⟩

end Go.Rc7
namespace Go.Proofs.YteellffkjjllgaaGreat
open Go.RowKit Go.Rc5 Go.Rc6 Go.Rc7

theorem need_div (z : Nat) : (z + 63) / 64 = need z := by
  unfold need
  split <;> omega

set_option maxHeartbeats 1000000 in
theorem needD_any (z : Int) (h0 : 0 ≤ z) (h1 : z ≤ 20000) (w : World) : Calls Tryz.prog 57 #[.int .i64 z] w fun e w' => e = .returned (.int .i64 ((need z.toNat : Nat) : Int)) ∧ w' = w := by
  obtain ⟨q, rfl⟩ : ∃ q : Nat, z = (q : Int) := ⟨z.toNat, by omega⟩
  have HD := Lib.hid (need_div q)
  go_enter Tryz.func57, Tryz.ntmps57
  go_wp2
  go_ret
  refine ⟨?_, rfl⟩
  rw [Int.toNat_natCast, ← HD.out]
  show Ending.returned (.int .i64 (((q : Int) + 64 - 1) / 64)) = _
  rw [show ((q : Int) + 64 - 1) / 64 = (((q + 63) / 64 : Nat) : Int) by omega]

set_option maxRecDepth 100000 in
set_option maxHeartbeats 8000000 in
theorem well_core (s : ByteArray) (z : Int) (p : Option Addr) (n c : Nat) (w : World) (r1 r2 : Bool) (t m : Int)
    (HR1 : ∀ W, Below w.heap.size w W → Calls Tryz.prog 54 #[.string s] W fun e w' => e = .returned (.bool r1) ∧ Below W.heap.size W w')
    (HR2 : n ≤ 200 → ∀ W, Below w.heap.size w W → Calls Tryz.prog 55 #[.slice p n c, .int .i64 8192] W fun e w' => e = .returned (.bool r2) ∧ Below W.heap.size W w')
    (HT : r2 = true → n ≤ 200 → ∀ W, Below w.heap.size w W → Calls Tryz.prog 56 #[.slice p n c] W fun e w' => e = .returned (.int .i64 t) ∧ Below W.heap.size W w')
    (HN : 0 ≤ z → z ≤ 20000 → ∀ W, Below w.heap.size w W → Calls Tryz.prog 57 #[.int .i64 z] W fun e w' => e = .returned (.int .i64 m) ∧ w' = W) :
    Calls Tryz.prog 37 #[.agg #[.string s, .int .i64 z, .slice p n c]] w fun e w' => e = .returned (.bool (r1 && decide (0 ≤ z) && decide (z ≤ 20000) && decide (n ≤ 200) && r2 && decide (t = m))) ∧ Below w.heap.size w w' := by
  have C := (Crew.start w).block #[.string s, .int .i64 z, .slice p n c] 40
  have HC := Lib.hid C
  have HB := Lib.hid C.bel
  have F1 := Lib.hid (fun q => after_of (W := (w.alloc (.cells #[.string s, .int .i64 z, .slice p n c] 40))) (fun W hW => HR1 W (below_trans HB.out hW)) q)
  have F2 := Lib.hid (fun h q => after_of (W := (w.alloc (.cells #[.string s, .int .i64 z, .slice p n c] 40))) (fun W hW => HR2 h W (below_trans HB.out hW)) q)
  have GT := Lib.hid HT
  have GN := Lib.hid HN
  clear HR1 HR2 HT HN
  go_enter Tryz.func37, Tryz.ntmps37
  have F3 := Lib.hid (fun h h' q => after_of (W := (w.alloc (.cells #[.string s, .int .i64 z, .slice p n c] 40))) (fun W hW => GT.out h h' W (below_trans HB.out hW)) q)
  have F4 := Lib.hid (fun h h' q => after_eq (W := (w.alloc (.cells #[.string s, .int .i64 z, .slice p n c] 40))) (fun W hW => GN.out h h' W (below_trans HB.out hW)) q)
  have c0 := fun q => after_cell (C.at 0 rfl (j := 0) rfl).1 (C.lt 0 rfl) q
  have c1 := fun q => after_cell (C.at 0 rfl (j := 1) rfl).1 (C.lt 0 rfl) q
  have c2 := fun q => after_cell (C.at 0 rfl (j := 2) rfl).1 (C.lt 0 rfl) q
  clear C HC GT GN
  cases r1 with
  | false =>
    go_wp2_with fail
    refine wp_region_after (by kernel_rfl) (by kernel_rfl) ?_
    repeat (go_big_quiet_step (first | with_reducible exact F1.out _))
    refine wpQuiet_nil ?_
    intro _ hw
    obtain ⟨q, rfl⟩ := hw
    have HP := Lib.hid q.is
    generalize q.to = wp at *
    go_wp2
    go_ret
    exact ⟨by simp <;> (intros; omega), below_trans HB.out HP.out⟩
  | true =>
    by_cases e1 : 0 ≤ z
    · have e1' : decide (0 ≤ z) = true := decide_eq_true e1
      by_cases e2 : z ≤ 20000
      · have e2' : decide (z ≤ 20000) = true := decide_eq_true e2
        replace F4 := Lib.hid (F4.out e1 e2)
        by_cases e3 : n ≤ 200
        · have e3' : decide ((n : Int) ≤ 200) = true := decide_eq_true (by omega)
          have e3'' : (n : Int) ≤ 200 := by omega
          replace F2 := Lib.hid (F2.out e3)
          cases r2 with
          | false =>
            go_wp2_with fail
            refine wp_region_after (by kernel_rfl) (by kernel_rfl) ?_
            repeat (go_big_quiet_step (first | with_reducible exact F1.out _ | with_reducible exact F2.out _))
            refine wpQuiet_nil ?_
            intro _ hw
            obtain ⟨q, rfl⟩ := hw
            have HP := Lib.hid q.is
            generalize q.to = wp at *
            go_wp2
            go_ret
            exact ⟨by simp <;> (intros; omega), below_trans HB.out HP.out⟩
          | true =>
            replace F3 := Lib.hid (F3.out rfl e3)
            go_wp2_with fail
            refine wp_region_after (by kernel_rfl) (by kernel_rfl) ?_
            repeat (go_big_quiet_step (first | with_reducible exact F1.out _ | with_reducible exact F2.out _ | with_reducible exact F3.out _ | with_reducible exact F4.out _))
            refine wpQuiet_nil ?_
            intro _ hw
            obtain ⟨q, rfl⟩ := hw
            have HP := Lib.hid q.is
            generalize q.to = wp at *
            go_wp2
            go_ret
            exact ⟨by rw [← beq_dec]; simp <;> (intros; omega), below_trans HB.out HP.out⟩
        · have e3' : decide ((n : Int) ≤ 200) = false := decide_eq_false (by omega)
          have e3'' : ¬ (n : Int) ≤ 200 := by omega
          go_wp2_with fail
          refine wp_region_after (by kernel_rfl) (by kernel_rfl) ?_
          repeat (go_big_quiet_step (first | with_reducible exact F1.out _))
          refine wpQuiet_nil ?_
          intro _ hw
          obtain ⟨q, rfl⟩ := hw
          have HP := Lib.hid q.is
          generalize q.to = wp at *
          go_wp2
          go_ret
          exact ⟨by simp <;> (intros; omega), below_trans HB.out HP.out⟩
      · have e2' : decide (z ≤ 20000) = false := decide_eq_false e2
        go_wp2_with fail
        refine wp_region_after (by kernel_rfl) (by kernel_rfl) ?_
        repeat (go_big_quiet_step (first | with_reducible exact F1.out _))
        refine wpQuiet_nil ?_
        intro _ hw
        obtain ⟨q, rfl⟩ := hw
        have HP := Lib.hid q.is
        generalize q.to = wp at *
        go_wp2
        go_ret
        exact ⟨by simp <;> (intros; omega), below_trans HB.out HP.out⟩
    · have e1' : decide (0 ≤ z) = false := decide_eq_false e1
      go_wp2_with fail
      refine wp_region_after (by kernel_rfl) (by kernel_rfl) ?_
      repeat (go_big_quiet_step (first | with_reducible exact F1.out _))
      refine wpQuiet_nil ?_
      intro _ hw
      obtain ⟨q, rfl⟩ := hw
      have HP := Lib.hid q.is
      generalize q.to = wp at *
      go_wp2
      go_ret
      exact ⟨by simp <;> (intros; omega), below_trans HB.out HP.out⟩

set_option maxRecDepth 100000 in
set_option maxHeartbeats 8000000 in
theorem wellR_core (s : ByteArray) (z : Int) (p : Option Addr) (n c : Nat) (w : World) (r1 r2 : Bool) (t m : Int)
    (HR1 : ∀ W, Below w.heap.size w W → Calls Tryz.prog 60 #[.string s] W fun e w' => e = .returned (.bool r1) ∧ Below W.heap.size W w')
    (HR2 : ∀ W, Below w.heap.size w W → Calls Tryz.prog 61 #[.slice p n c, .int .i64 8192] W fun e w' => e = .returned (.bool r2) ∧ Below W.heap.size W w')
    (HT : r2 = true → n ≤ 200 → ∀ W, Below w.heap.size w W → Calls Tryz.prog 62 #[.slice p n c] W fun e w' => e = .returned (.int .i64 t) ∧ Below W.heap.size W w')
    (HN : 0 ≤ z → z ≤ 20000 → ∀ W, Below w.heap.size w W → Calls Tryz.prog 63 #[.int .i64 z] W fun e w' => e = .returned (.int .i64 m) ∧ w' = W) :
    Calls Tryz.prog 41 #[.agg #[.string s, .int .i64 z, .slice p n c]] w fun e w' => e = .returned (.bool (r1 && decide (0 ≤ z) && decide (z ≤ 20000) && decide (n ≤ 200) && r2 && decide (t = m))) ∧ Below w.heap.size w w' := by
  have C := (Crew.start w).block #[.string s, .int .i64 z, .slice p n c] 44
  have HC := Lib.hid C
  have HB := Lib.hid C.bel
  have GR1 := Lib.hid (HR1 _ HB.out)
  have GR2 := Lib.hid HR2
  have a0 := (C.at 0 rfl (j := 0) rfl).1
  have GT := Lib.hid HT
  have GN := Lib.hid HN
  clear C HR1 HR2 HT HN
  go_enter Tryz.func41, Tryz.ntmps41
  go_wp2_with fail
  refine GR1.out.mono ?_
  rintro e w1 ⟨rfl, hb1⟩
  replace HB := Lib.hid (below_trans HB.out hb1)
  replace HC := Lib.hid (HC.out.below hb1)
  clear a0 hb1 GR1
  have a2 := (HC.out.at 0 rfl (j := 2) rfl).1
  go_wp2_with fail
  refine (GR2.out _ HB.out).mono ?_
  rintro e w2 ⟨rfl, hb2⟩
  replace HB := Lib.hid (below_trans HB.out hb2)
  replace HC := Lib.hid (HC.out.below hb2)
  clear a2 hb2 GR2
  have C := HC.out
  have F1 : True := trivial
  have F2 : True := trivial
  have F3 := Lib.hid (fun h h' q => after_of (W := w2) (fun W hW => GT.out h h' W (below_trans HB.out hW)) q)
  have F4 := Lib.hid (fun h h' q => after_eq (W := w2) (fun W hW => GN.out h h' W (below_trans HB.out hW)) q)
  have c0 := fun q => after_cell (C.at 0 rfl (j := 0) rfl).1 (C.lt 0 rfl) q
  have c1 := fun q => after_cell (C.at 0 rfl (j := 1) rfl).1 (C.lt 0 rfl) q
  have c2 := fun q => after_cell (C.at 0 rfl (j := 2) rfl).1 (C.lt 0 rfl) q
  clear C HC GT GN
  cases r1 with
  | false =>
    go_wp2_with fail
    refine wp_region_after (by kernel_rfl) (by kernel_rfl) ?_
    repeat (go_big_quiet_step (first | fail))
    refine wpQuiet_nil ?_
    intro _ hw
    obtain ⟨q, rfl⟩ := hw
    have HP := Lib.hid q.is
    generalize q.to = wp at *
    go_wp2
    go_ret
    exact ⟨by simp <;> (intros; omega), below_trans HB.out HP.out⟩
  | true =>
   cases r2 with
   | false =>
    go_wp2_with fail
    refine wp_region_after (by kernel_rfl) (by kernel_rfl) ?_
    repeat (go_big_quiet_step (first | fail))
    refine wpQuiet_nil ?_
    intro _ hw
    obtain ⟨q, rfl⟩ := hw
    have HP := Lib.hid q.is
    generalize q.to = wp at *
    go_wp2
    go_ret
    exact ⟨by simp <;> (intros; omega), below_trans HB.out HP.out⟩
   | true =>
    by_cases e1 : 0 ≤ z
    · have e1' : decide (0 ≤ z) = true := decide_eq_true e1
      by_cases e2 : z ≤ 20000
      · have e2' : decide (z ≤ 20000) = true := decide_eq_true e2
        replace F4 := Lib.hid (F4.out e1 e2)
        by_cases e3 : n ≤ 200
        · have e3' : decide ((n : Int) ≤ 200) = true := decide_eq_true (by omega)
          have e3'' : (n : Int) ≤ 200 := by omega
          replace F3 := Lib.hid (F3.out rfl e3)
          go_wp2_with fail
          refine wp_region_after (by kernel_rfl) (by kernel_rfl) ?_
          repeat (go_big_quiet_step (first | with_reducible exact F3.out _ | with_reducible exact F4.out _))
          refine wpQuiet_nil ?_
          intro _ hw
          obtain ⟨q, rfl⟩ := hw
          have HP := Lib.hid q.is
          generalize q.to = wp at *
          go_wp2
          go_ret
          exact ⟨by rw [← beq_dec]; simp <;> (intros; omega), below_trans HB.out HP.out⟩
        · have e3' : decide ((n : Int) ≤ 200) = false := decide_eq_false (by omega)
          have e3'' : ¬ (n : Int) ≤ 200 := by omega
          go_wp2_with fail
          refine wp_region_after (by kernel_rfl) (by kernel_rfl) ?_
          repeat (go_big_quiet_step (first | fail))
          refine wpQuiet_nil ?_
          intro _ hw
          obtain ⟨q, rfl⟩ := hw
          have HP := Lib.hid q.is
          generalize q.to = wp at *
          go_wp2
          go_ret
          exact ⟨by simp <;> (intros; omega), below_trans HB.out HP.out⟩
      · have e2' : decide (z ≤ 20000) = false := decide_eq_false e2
        go_wp2_with fail
        refine wp_region_after (by kernel_rfl) (by kernel_rfl) ?_
        repeat (go_big_quiet_step (first | fail))
        refine wpQuiet_nil ?_
        intro _ hw
        obtain ⟨q, rfl⟩ := hw
        have HP := Lib.hid q.is
        generalize q.to = wp at *
        go_wp2
        go_ret
        exact ⟨by simp <;> (intros; omega), below_trans HB.out HP.out⟩
    · have e1' : decide (0 ≤ z) = false := decide_eq_false e1
      go_wp2_with fail
      refine wp_region_after (by kernel_rfl) (by kernel_rfl) ?_
      repeat (go_big_quiet_step (first | fail))
      refine wpQuiet_nil ?_
      intro _ hw
      obtain ⟨q, rfl⟩ := hw
      have HP := Lib.hid q.is
      generalize q.to = wp at *
      go_wp2
      go_ret
      exact ⟨by simp <;> (intros; omega), below_trans HB.out HP.out⟩

theorem need_toNat {z : Int} (h : 0 ≤ z) (hz : z ≤ 20000) (W : World) : Calls Tryz.prog 63 #[.int .i64 z] W fun e w' => e = .returned (.int .i64 ((need z.toNat : Nat) : Int)) ∧ w' = W := by
  have := needR_any z.toNat (by omega) W
  rw [show ((z.toNat : Nat) : Int) = z from Int.toNat_of_nonneg h] at this
  exact this

/-- What the words of a file that is well come to. -/
theorem well_of (f : Fl) (r2 : Bool) (t m : Int) (h2 : f.spans.length ≤ 200 → (r2 = true ↔ ∃ N, Fits f.spans N 8192 ∧ Ch 0 N)) (ht : ∀ N, Fits f.spans N 8192 → Ch 0 N → t = (total N : Int)) (hm : m = ((need f.size.toNat : Nat) : Int)) :
    (Rc1.right f.name.data.toList && decide (0 ≤ f.size) && decide (f.size ≤ 20000) && decide (f.spans.length ≤ 200) && r2 && decide (t = m)) = wellB f := by
  refine wellB_of ?_
  simp only [Bool.and_eq_true, decide_eq_true_eq]
  constructor
  · rintro ⟨⟨⟨⟨⟨k1, k2⟩, k3⟩, k4⟩, k5⟩, k6⟩
    obtain ⟨N, hf, hc⟩ := (h2 k4).1 k5
    refine ⟨k1, k2, k3, k4, N, hf.eq, hc, fun s hs => ⟨hf.some s hs, hf.fit s hs⟩, ?_⟩
    have := ht N hf hc
    omega
  · rintro ⟨k1, k2, k3, k4, N, he, hc, hs, hT⟩
    have hf : Fits f.spans N 8192 := ⟨by decide, by decide, he, fun s h => (hs s h).1, fun s h => (hs s h).2⟩
    refine ⟨⟨⟨⟨⟨k1, k2⟩, k3⟩, k4⟩, (h2 k4).2 ⟨N, hf, hc⟩⟩, ?_⟩
    have := ht N hf hc
    omega

theorem fits_one {L : List SpI} {N N' : List Sp} {n n' : Nat} (h : Fits L N n) (h' : Fits L N' n') : N = N' := castS_inj (h.eq.symm.trans h'.eq)

theorem fits_rows (L : List SpI) : (∃ N, Fits L N 8192) ∨ Bad L 8192 := by
  rcases bad_or_fits L 8192 with h | ⟨N, n, hn, hf⟩
  · exact .inr h
  · have : n = 8192 := by omega
    subst this
    exact .inl ⟨N, hf⟩

theorem bad_no {L : List SpI} {N : List Sp} (hb : Bad L 8192) (hf : Fits L N 8192) : False := by
  rcases hb with h | h | ⟨x, hx, hi⟩
  · omega
  · omega
  · rw [hf.eq] at hx
    simp only [castS, List.mem_map] at hx
    obtain ⟨t, ht, rfl⟩ := hx
    have h3 := hf.some t ht
    have h4 := hf.fit t ht
    have := (insB_iff ((t.1 : Int), (t.2 : Int)) 8192).2 ⟨by show 1 ≤ (t.2 : Int); omega, by show 0 ≤ (t.1 : Int); omega, by show (t.1 : Int) < 8192; omega, by show (t.2 : Int) ≤ 8192 - t.1; omega⟩
    rw [hi] at this
    cases this

open Classical in
theorem well_any (f : Fl) (k : FlOk f) (p : Option Addr) (c : Nat) (w : World) (h : SpansAt w p f.spans) :
    Calls Tryz.prog 37 #[.agg #[.string f.name, .int .i64 f.size, .slice p f.spans.length c]] w fun e w' => e = .returned (.bool (wellB f)) ∧ Below w.heap.size w w' := by
  have hS : ∀ W, Below w.heap.size w W → SpansAt W p f.spans := fun W hW => SpansAt.below h hW
  rcases fits_rows f.spans with ⟨N, hf⟩ | hb
  · have hlen : N.length = f.spans.length := by rw [hf.eq, castS_length]
    rw [← well_of f (decide (Ch 0 N)) (total N : Nat) _ (fun _ => by rw [decide_eq_true_eq]; exact ⟨fun hc => ⟨N, hf, hc⟩, fun ⟨M, hM, hc⟩ => fits_one hM hf ▸ hc⟩) (fun M hM _ => by rw [fits_one hM hf]) rfl]
    refine well_core f.name f.size p f.spans.length c w _ _ _ _ (fun W _ => Right_any f.name k.name W) (fun h2 W hW => ?_) (fun hr h2 W hW => ?_) (fun h0 h1 W _ => needD_any f.size h0 h1 W)
    · have := pright_good f.spans N 8192 p c f.spans.length W (hS W hW) rfl (by omega) hf
      refine this.mono ?_
      rintro e w' ⟨b, rfl, hbI, hbb⟩
      refine ⟨?_, hbb⟩
      congr 2
      rw [Bool.eq_iff_iff, decide_eq_true_eq]
      exact hbI
    · have hc : Ch 0 N := by simpa using hr
      have hs := hS W hW
      rw [hf.eq] at hs
      rw [hf.eq, castS_length]
      rw [hf.eq, castS_length] at h2
      exact ptotal N p c _ W hs rfl (by omega) (fun s hs => by have := hf.fit s hs; omega)
  · rw [← well_of f false 0 _ (fun _ => ⟨fun h => (by cases h), fun ⟨N, hf, _⟩ => (bad_no hb hf).elim⟩) (fun N hf _ => (bad_no hb hf).elim) rfl]
    refine well_core f.name f.size p f.spans.length c w _ _ _ _ (fun W _ => Right_any f.name k.name W) (fun h2 W hW => ?_) (fun hr => by cases hr) (fun h0 h1 W _ => needD_any f.size h0 h1 W)
    exact pright_bad f.spans p c f.spans.length 8192 W (hS W hW) rfl (by omega) hb (fun s hs => (k.spans s hs).1)

open Classical in
theorem wellR_any (f : Fl) (hk : f.name.size ≤ 140737488355328) (hlen0 : f.spans.length ≤ 100000) (p : Option Addr) (c : Nat) (w : World) (h : SpansAt w p f.spans) :
    Calls Tryz.prog 41 #[.agg #[.string f.name, .int .i64 f.size, .slice p f.spans.length c]] w fun e w' => e = .returned (.bool (wellB f)) ∧ Below w.heap.size w w' := by
  have hS : ∀ W, Below w.heap.size w W → SpansAt W p f.spans := fun W hW => SpansAt.below h hW
  rcases fits_rows f.spans with ⟨N, hf⟩ | hb
  · have hlen : N.length = f.spans.length := by rw [hf.eq, castS_length]
    rw [← well_of f (decide (Ch 0 N)) (total N : Nat) _ (fun _ => by rw [decide_eq_true_eq]; exact ⟨fun hc => ⟨N, hf, hc⟩, fun ⟨M, hM, hc⟩ => fits_one hM hf ▸ hc⟩) (fun M hM _ => by rw [fits_one hM hf]) rfl]
    refine wellR_core f.name f.size p f.spans.length c w _ _ _ _ (fun W _ => rRight_any f.name hk W) (fun W hW => ?_) (fun hr h2 W hW => ?_) (fun h0 h1 W _ => need_toNat h0 h1 W)
    · have := rright_good f.spans N 8192 p c f.spans.length W (hS W hW) rfl hlen0 hf
      refine this.mono ?_
      rintro e w' ⟨b, rfl, hbI, hbb⟩
      refine ⟨?_, hbb⟩
      congr 2
      rw [Bool.eq_iff_iff, decide_eq_true_eq]
      exact hbI
    · have hs := hS W hW
      rw [hf.eq] at hs
      refine (rtotal_any N p c _ W hs hlen hlen0 (fun s hs => by have := hf.fit s hs; omega)).mono ?_
      rintro e w' ⟨rfl, rfl⟩
      exact ⟨rfl, Below.refl _ _⟩
  · rw [← well_of f false 0 _ (fun _ => ⟨fun h => (by cases h), fun ⟨N, hf, _⟩ => (bad_no hb hf).elim⟩) (fun N hf _ => (bad_no hb hf).elim) rfl]
    refine wellR_core f.name f.size p f.spans.length c w _ _ _ _ (fun W _ => rRight_any f.name hk W) (fun W hW => ?_) (fun hr => by cases hr) (fun h0 h1 W _ => need_toNat h0 h1 W)
    exact rright_bad f.spans p c f.spans.length 8192 W (hS W hW) rfl hlen0 hb

end Go.Proofs.YteellffkjjllgaaGreat

namespace Go.Proofs.YteellffkjjllgaaGreat
open Go.RowKit

theorem sizeB : (Tryz.prog.info? 74).map (·.size) = some 2 := by kernel_rfl
theorem infoB : (Tryz.prog.info? 5).map (fun i => (i.zero, i.size, i.bytes)) = some (some (.int .u8 0), 1, 1) := by kernel_rfl

set_option maxHeartbeats 1000000 in
set_option maxRecDepth 100000 in
theorem copyCheck_used (b : Nat) (w : World) (h0 : w.cell? ⟨b, 0, none⟩ = some (.pointer (some ⟨b, 0, none⟩))) :
    Calls Tryz.prog 58 #[.pointer (some ⟨b, 0, none⟩)] w fun e w' => e = .returned (.tuple #[]) ∧ w = w' := by
  obtain ⟨j, hj, _⟩ := Option.map_eq_some_iff.1 sizeB
  go_enter Tryz.func58, Tryz.ntmps58
  go_wp2
  rw [Lib.run_neq_ptr_same w _ Tryz.underlying72 hj]
  go_wp2
  go_end0
  exact ⟨rfl, rfl⟩

set_option maxHeartbeats 1000000 in
set_option maxRecDepth 100000 in
theorem copyCheck_fresh (b : Nat) (w : World) (h0 : w.cell? ⟨b, 0, none⟩ = some (.pointer none)) (hsh : w.shape? b = some (74, 2)) (hfz : w.frozen? ⟨b, 0, none⟩ = false) :
    Calls Tryz.prog 58 #[.pointer (some ⟨b, 0, none⟩)] w fun e w' => e = .returned (.tuple #[]) ∧ w' = w.setCell ⟨b, 0, none⟩ (.pointer (some ⟨b, 0, none⟩)) := by
  obtain ⟨j, hj, hjs⟩ := Option.map_eq_some_iff.1 sizeB
  go_enter Tryz.func58, Tryz.ntmps58
  go_wp2
  rw [Lib.run_to_unsafe w ⟨b, 0, none⟩ Tryz.underlying72 Tryz.underlying115 hj (by rw [hjs]; decide) hsh (Nat.zero_lt_succ 1)]
  simp only [Result.andThen]
  rw [Oper.upon_value]
  go_wp2
  rw [run_callFunc_extern Tryz.func78 (by kernel_rfl) (by kernel_rfl) (by kernel_rfl) (e := Extern.AbiNoEscape.same) (by kernel_rfl)]
  rw [Lib.run_noEscape]
  simp only [Result.andThen]
  rw [Oper.upon_value]
  go_wp2
  rw [Lib.run_from_unsafe w ⟨b, 0, none⟩ Tryz.underlying115 Tryz.underlying72 hj hsh (by kernel_rfl)]
  simp only [Result.andThen]
  rw [Oper.upon_value]
  go_wp2
  go_end0
  exact ⟨rfl, rfl⟩

theorem copyCheck_k (B b : Nat) (bs : List Value) (w : World) (h : Lib.IsBuilderF 74 5 B b bs w) :
    Calls Tryz.prog 58 #[.pointer (some ⟨b, 0, none⟩)] w fun e w' => e = .returned (.tuple #[]) ∧ (Lib.BuilderAtF 74 5 B b (.pointer (some ⟨b, 0, none⟩)) bs w' ∧ Below B w w' ∧ Lib.OthersKept 5 (some b) w w') := by
  rcases h with h | h
  · refine (copyCheck_fresh b w h.cell0 h.shape h.frozen0).mono ?_
    rintro e w' ⟨rfl, rfl⟩
    exact ⟨rfl, h.used _, (Below.refl B w).setCell (p := ⟨b, 0, none⟩) h.1 _, (Lib.OthersKept.refl _ _ w).setCell ⟨b, 0, none⟩ rfl _⟩
  · refine (copyCheck_used b w h.cell0).mono ?_
    rintro e w' ⟨rfl, rfl⟩
    exact ⟨rfl, h, Below.refl B _, Lib.OthersKept.refl _ _ _⟩

set_option maxHeartbeats 2000000 in
set_option maxRecDepth 100000 in
theorem WriteString_k (B b : Nat) (bs : List Value) (s : ByteArray) (w : World) (h : Lib.IsBuilderF 74 5 B b bs w) (hlen : bs.length + s.size ≤ 140737488355328) (hBw : B ≤ w.heap.size) :
    Calls Tryz.prog 39 #[.pointer (some ⟨b, 0, none⟩), .string s] w fun e w' => e = .returned (.tuple #[.int .i64 s.size, .nilIface]) ∧ (Lib.BuilderAtF 74 5 B b (.pointer (some ⟨b, 0, none⟩)) (bs ++ Lib.strCells s) w' ∧ Below B w w' ∧ Lib.OthersKept 5 (some b) w w') := by
  obtain ⟨i0, hi, hz0, hz1, hz2⟩ := info_parts infoB
  go_enter Tryz.func39, Tryz.ntmps39
  go_wp2_with (go_at_call 58; refine (copyCheck_k B b bs _ h).mono ?_)
  rintro e w1 ⟨rfl, h1, hb1, hk1⟩
  obtain ⟨hB, v, hbk, hown, hne⟩ := h1
  have c0 : w1.cell? ⟨b, 0, none⟩ = some (.pointer (some ⟨b, 0, none⟩)) := by rw [Lib.cell_of_heap hbk]; rfl
  have c1 : w1.cell? ⟨b, 1, none⟩ = some v := by rw [Lib.cell_of_heap hbk]; rfl
  go_wp2_with (at_builtin; refine Lib.wpList_append_own_stringF _ rfl _ _ 71 9 rfl B 5 i0 Tryz.underlying71 Tryz.underlying9 hi hz0 hz1 hz2 _ _ _ rfl hown s rfl ?c3 ?c4 ?c5 ?_)
  case c3 => unfold maxLen; omega
  case c4 => omega
  case c5 => have := hb1.size; omega
  intro v' w2 hown' hgrow _
  have hlt : b < w1.heap.size := by
    rcases Nat.lt_or_ge b w1.heap.size with h' | h'
    · exact h'
    · simp [Array.getElem?_eq_none h'] at hbk
  have hb2 : w2.heap[b]? = some (.cells #[.pointer (some ⟨b, 0, none⟩), v] 74 (0, 0)) := by
    rw [hgrow.block b hlt (fun e => hne e.symm)]
    exact hbk
  have d0 : w2.cell? ⟨b, 0, none⟩ = some (.pointer (some ⟨b, 0, none⟩)) := by rw [Lib.cell_of_heap hb2]; rfl
  have d1 : w2.cell? ⟨b, 1, none⟩ = some v := by rw [Lib.cell_of_heap hb2]; rfl
  have f1 : w2.frozen? ⟨b, 1, none⟩ = false := Lib.frozen_of_heap hb2 1
  obtain ⟨ao, n', cap, rfl⟩ : ∃ ao n' cap, v' = .slice ao n' cap := by
    rcases hown'.2 with ⟨hv, _⟩ | ⟨g, cap, cur, fz, hv, _⟩
    · exact ⟨_, _, _, hv⟩
    · exact ⟨_, _, _, hv⟩
  go_wp2
  go_ret2
  refine ⟨rfl, ?_, ?_, (hk1.grown hgrow (Lib.ownsRowF_kind hown)).setCell ⟨b, 1, none⟩ rfl _⟩
  · exact Lib.BuilderAtF.put (T := 74) (e := 5) hB hb2 (bs' := bs ++ Lib.strCells s) (by simpa [Lib.strCells_length] using hown') (by decide)
  · exact (hb1.grown hgrow (by have := hb1.size; omega) (fun k hk => (hown.lt k hk).1)).setCell (p := ⟨b, 1, none⟩) hB _

end Go.Proofs.YteellffkjjllgaaGreat

namespace Go.Rc3
open Go.Rc2 (say put)

/-- One step of the register, no bit coming in. -/
def s0 (x : Nat) : Nat := if x % 2 = 1 then x / 2 ^^^ 3988292384 else x / 2

def it : Nat → Nat → Nat
  | 0, x => x
  | k + 1, x => it k (s0 x)

/-- The register behind a text. -/
def reg (r : Nat) (l : List UInt8) : Nat := l.foldl (fun r c => it 8 (r ^^^ c.toNat)) r

def crc (l : List UInt8) : Nat := reg 4294967295 l ^^^ 4294967295

theorem xor_half (a b : Nat) : (a ^^^ b) / 2 = a / 2 ^^^ b / 2 := by
  have := Nat.shiftRight_xor_distrib (a := a) (b := b) (i := 1)
  simpa [Nat.shiftRight_eq_div_pow] using this

theorem xor_odd (a b : Nat) : (a ^^^ b) % 2 = (a % 2 + b % 2) % 2 := by
  have h := Nat.testBit_xor a b 0
  simp only [Nat.testBit_zero] at h
  rcases Nat.mod_two_eq_zero_or_one a with ha | ha <;> rcases Nat.mod_two_eq_zero_or_one b with hb | hb <;> rcases Nat.mod_two_eq_zero_or_one (a ^^^ b) with hc | hc <;> simp [ha, hb, hc] at h ⊢

theorem s0_xor (a b : Nat) : s0 (a ^^^ b) = s0 a ^^^ s0 b := by
  unfold s0
  have h := xor_odd a b
  rw [xor_half]
  rcases Nat.mod_two_eq_zero_or_one a with ha | ha <;> rcases Nat.mod_two_eq_zero_or_one b with hb | hb <;> rw [ha, hb] at h <;> simp [h, ha, hb]
  · rw [Nat.xor_assoc]
  · rw [Nat.xor_assoc, Nat.xor_comm (b / 2), Nat.xor_assoc]
  · rw [Nat.xor_assoc, ← Nat.xor_assoc 3988292384, Nat.xor_comm 3988292384, Nat.xor_assoc (b / 2), Nat.xor_self, Nat.xor_zero]

theorem it_xor (k a b : Nat) : it k (a ^^^ b) = it k a ^^^ it k b := by
  induction k generalizing a b with
  | zero => rfl
  | succ k ih => rw [it, it, it, s0_xor, ih]

theorem it_add (j k x : Nat) : it (j + k) x = it k (it j x) := by
  induction j generalizing x with
  | zero => simp [it]
  | succ j ih => rw [Nat.succ_add, it, it, ih]

theorem s0_double (x : Nat) : s0 (x * 2) = x := by
  unfold s0
  rw [if_neg (by omega)]
  omega

theorem it_shift (k x : Nat) : it k (x * 2 ^ k) = x := by
  induction k generalizing x with
  | zero => simp [it]
  | succ k ih => rw [it, Nat.pow_succ, ← Nat.mul_assoc, s0_double, ih]

theorem s0_lt (x : Nat) (h : x < 4294967296) : s0 x < 4294967296 := by
  unfold s0
  split
  · exact Nat.xor_lt_two_pow (n := 32) (by omega) (by omega)
  · omega

theorem s0_ne (x : Nat) (h : x < 4294967296) (h0 : x ≠ 0) : s0 x ≠ 0 := by
  unfold s0
  split
  · intro e
    have e2 : x / 2 = 3988292384 := by
      have := congrArg (fun y => y ^^^ 3988292384) e
      simp only [Nat.xor_assoc, Nat.xor_self, Nat.xor_zero, Nat.zero_xor] at this
      exact this
    omega
  · omega

theorem it_lt (k x : Nat) (h : x < 4294967296) : it k x < 4294967296 := by
  induction k generalizing x with
  | zero => exact h
  | succ k ih => exact ih _ (s0_lt x h)

theorem it_ne (k x : Nat) (h : x < 4294967296) (h0 : x ≠ 0) : it k x ≠ 0 := by
  induction k generalizing x with
  | zero => exact h0
  | succ k ih => exact ih _ (s0_lt x h) (s0_ne x h h0)

theorem it_zero (k : Nat) : it k 0 = 0 := by
  induction k with
  | zero => rfl
  | succ k ih => rw [it]; exact ih

theorem xor_eq_zero {a b : Nat} (h : a ^^^ b = 0) : a = b := by
  have := congrArg (fun y => y ^^^ b) h
  simpa [Nat.xor_assoc, Nat.xor_self] using this

theorem it_inj (k x y : Nat) (hx : x < 4294967296) (hy : y < 4294967296) (h : it k x = it k y) : x = y := by
  apply xor_eq_zero
  refine Classical.byContradiction fun h0 => it_ne k _ (Nat.xor_lt_two_pow (n := 32) hx hy) h0 ?_
  rw [it_xor, h, Nat.xor_self]

/-- A byte below, the rest above. -/
theorem low_high (a b : Nat) (h : a < 256) : a + 256 * b = a ^^^ (b * 2 ^ 8) := by
  have := Nat.shiftLeft_add_eq_or_of_lt (i := 8) (b := a) (by omega) b
  rw [Nat.shiftLeft_eq] at this
  have h2 : a ^^^ (b * 2 ^ 8) = b * 2 ^ 8 ||| a := by
    apply Nat.eq_of_testBit_eq
    intro i
    simp only [Nat.testBit_xor, Nat.testBit_or, Nat.testBit_mul_two_pow]
    by_cases hi : 8 ≤ i
    · have : a.testBit i = false := Nat.testBit_lt_two_pow (Nat.lt_of_lt_of_le h (by
        show 2 ^ 8 ≤ 2 ^ i
        exact Nat.pow_le_pow_right (by decide) hi))
      simp [this, hi]
    · simp [hi]
  rw [h2, ← this]
  omega

theorem reg_eq (r : Nat) (l : List UInt8) : reg r l = it (8 * l.length) (r ^^^ say l) := by
  induction l generalizing r with
  | nil => simp [reg, say, it]
  | cons c l ih =>
    have h := ih (it 8 (r ^^^ c.toNat))
    unfold reg at h ⊢
    rw [List.foldl_cons, h, say, low_high _ _ c.toNat_lt, ← Nat.xor_assoc, List.length_cons, show 8 * (l.length + 1) = 8 + 8 * l.length by omega, it_add, it_xor 8 (r ^^^ c.toNat), it_shift]

theorem reg_append (r : Nat) (l m : List UInt8) : reg r (l ++ m) = reg (reg r l) m := by
  unfold reg
  rw [List.foldl_append]

theorem reg_lt (r : Nat) (h : r < 4294967296) (l : List UInt8) : reg r l < 4294967296 := by
  induction l generalizing r with
  | nil => exact h
  | cons c l ih =>
    have hc := c.toNat_lt
    exact ih _ (it_lt 8 _ (Nat.xor_lt_two_pow (n := 32) h (by omega)))

theorem crc_lt (l : List UInt8) : crc l < 4294967296 := Nat.xor_lt_two_pow (n := 32) (reg_lt _ (by omega) l) (by omega)

theorem say_put4 (n : Nat) (h : n < 4294967296) : say (put 4 n) = n := by
  rw [Rc2.say_put]
  exact Nat.mod_eq_of_lt h

theorem say_lt4 (m : List UInt8) (h : m.length = 4) : say m < 4294967296 := by
  have := Rc2.say_lt m
  rw [h] at this
  exact this

theorem xor_swap (a b c : Nat) : a ^^^ b = c ↔ b = a ^^^ c := by
  constructor
  · intro h; rw [← h, ← Nat.xor_assoc, Nat.xor_self, Nat.zero_xor]
  · intro h; rw [h, ← Nat.xor_assoc, Nat.xor_self, Nat.zero_xor]

/-- Four bytes behind a text are its sum just if the register behind all is this one. -/
theorem sealed_iff (l m : List UInt8) (h : m.length = 4) : reg 4294967295 (l ++ m) = it 32 4294967295 ↔ m = put 4 (crc l) := by
  rw [reg_append, reg_eq (reg 4294967295 l) m, h]
  have hr := reg_lt 4294967295 (by omega) l
  have hm := say_lt4 m h
  constructor
  · intro e
    have e1 := it_inj _ _ _ (Nat.xor_lt_two_pow (n := 32) hr hm) (by omega) e
    have e2 : say m = crc l := (xor_swap _ _ _).1 e1
    rw [← e2, ← h, Rc2.put_say]
  · intro e
    have e2 : say m = crc l := by rw [e]; exact say_put4 _ (crc_lt l)
    rw [e2, show reg 4294967295 l ^^^ crc l = 4294967295 from (xor_swap _ _ _).2 rfl]

/-- Bits turned within 32 beside one another. -/
theorem turned_ne (n at' w : Nat) (hw : w < 4294967296) (h0 : w ≠ 0) (ha : at' ≤ 8 * n) : it (8 * n) (w * 2 ^ at') ≠ 0 := by
  rw [show 8 * n = at' + (8 * n - at') by omega, it_add, it_shift]
  exact it_ne _ _ hw h0

theorem reg_turned (r : Nat) (l m : List UInt8) (e : Nat) (hl : m.length = l.length) (h : say m = say l ^^^ e) : reg r m = reg r l ^^^ it (8 * l.length) e := by
  rw [reg_eq, reg_eq, hl, h, ← it_xor, Nat.xor_assoc]

theorem say_xor_low (a : UInt8) (l : List UInt8) (y : Nat) (h : y < 256) : say (UInt8.ofNat (a.toNat ^^^ y) :: l) = say (a :: l) ^^^ y := by
  have ha := a.toNat_lt
  have hx : a.toNat ^^^ y < 256 := Nat.xor_lt_two_pow (n := 8) (by omega) (by omega)
  have e : (UInt8.ofNat (a.toNat ^^^ y)).toNat = a.toNat ^^^ y := by rw [UInt8.toNat_ofNat']; exact Nat.mod_eq_of_lt hx
  simp only [say]
  rw [e, low_high _ _ hx, low_high _ _ ha, Nat.xor_assoc, Nat.xor_comm y, ← Nat.xor_assoc]

theorem say_cons_xor (a : UInt8) (l m : List UInt8) (e : Nat) (h : say m = say l ^^^ e) : say (a :: m) = say (a :: l) ^^^ e * 2 ^ 8 := by
  have ha := a.toNat_lt
  simp only [say]
  rw [h, low_high _ _ ha, low_high _ _ ha, Nat.xor_assoc]
  congr 1
  have := Nat.shiftLeft_xor_distrib (a := say l) (b := e) (i := 8)
  simpa [Nat.shiftLeft_eq] using this

/-- A bit of a byte turned, in a text. -/
theorem say_set (l : List UInt8) (i : Nat) (h : i < l.length) (y : Nat) (hy : y < 256) : say (l.set i (UInt8.ofNat ((l[i]'h).toNat ^^^ y))) = say l ^^^ y * 2 ^ (8 * i) := by
  induction l generalizing i with
  | nil => simp at h
  | cons a l ih =>
    match i, h with
    | 0, _ => simpa using say_xor_low a l y hy
    | i + 1, h =>
      have := ih i (by simpa using h)
      simp only [List.set_cons_succ, List.getElem_cons_succ]
      rw [say_cons_xor a l _ _ this, Nat.mul_assoc, ← Nat.pow_add, show 8 * i + 8 = 8 * (i + 1) by omega]

/-- Two texts of one length, bit by bit. -/
def zip (l m : List UInt8) : List UInt8 := List.zipWith (fun a b => a ^^^ b) l m

theorem reg_zip (r q : Nat) (l m : List UInt8) (h : l.length = m.length) : reg (r ^^^ q) (zip l m) = reg r l ^^^ reg q m := by
  induction l generalizing r q m with
  | nil =>
    match m, h with
    | [], _ => rfl
  | cons a l ih =>
    match m, h with
    | b :: m, h =>
      have h1 := ih (it 8 (r ^^^ a.toNat)) (it 8 (q ^^^ b.toNat)) m (by simpa using h)
      unfold reg zip at h1 ⊢
      simp only [List.zipWith_cons_cons, List.foldl_cons]
      rw [← h1, ← it_xor, UInt8.toNat_xor]
      congr 2
      rw [Nat.xor_assoc, Nat.xor_assoc]
      congr 1
      rw [← Nat.xor_assoc, ← Nat.xor_assoc, Nat.xor_comm q]

theorem zip_length (l m : List UInt8) (h : l.length = m.length) : (zip l m).length = l.length := by
  unfold zip
  rw [List.length_zipWith, h]
  exact Nat.min_self _

theorem crc_affine (a b c : List UInt8) (hb : a.length = b.length) (hc : a.length = c.length) : crc (zip (zip a b) c) = crc a ^^^ crc b ^^^ crc c := by
  have h1 := reg_zip 0 4294967295 (zip a b) c (by rw [zip_length a b hb, hc])
  have h2 := reg_zip 4294967295 4294967295 a b hb
  rw [Nat.xor_self] at h2
  rw [Nat.zero_xor, h2] at h1
  unfold crc
  rw [h1]
  generalize reg 4294967295 a = x
  generalize reg 4294967295 b = y
  generalize reg 4294967295 c = z
  apply Nat.eq_of_testBit_eq
  intro i
  simp only [Nat.testBit_xor]
  cases x.testBit i <;> cases y.testBit i <;> cases z.testBit i <;> cases (4294967295 : Nat).testBit i <;> rfl

/-- One byte more. -/
theorem crc_snoc (l : List UInt8) (c : UInt8) : crc (l ++ [c]) = it 8 (crc l ^^^ 4294967295 ^^^ c.toNat) ^^^ 4294967295 := by
  unfold crc
  rw [reg_append, Nat.xor_assoc (reg 4294967295 l), Nat.xor_self, Nat.xor_zero]
  rfl

/-- By a table: the low byte's, and the rest below. -/
theorem it_table (x : Nat) : it 8 x = it 8 (x % 256) ^^^ x / 256 := by
  have h : x = x % 256 ^^^ (x / 256) * 2 ^ 8 := by
    rw [← low_high _ _ (Nat.mod_lt _ (by decide))]
    omega
  have h2 := congrArg (it 8) h
  rw [it_xor, it_shift] at h2
  exact h2

end Go.Rc3

namespace Go.Proofs.YteellffkjjllgaaGreat
open Go.RowKit

theorem and1 (x : Nat) (h : x < 4294967296) : bits BinOp.and IntKind.u32 (x : Int) 1 = ((x % 2 : Nat) : Int) := by
  have := u32_and_nat x 1 h (by decide)
  rw [nat_mask1] at this
  exact this

theorem xorP (x : Nat) (h : x < 4294967296) : bits BinOp.xor IntKind.u32 (x : Int) 3988292384 = ((x ^^^ 3988292384 : Nat) : Int) :=
  u32_xor_nat x 3988292384 h (by decide)

theorem it_snoc (k x : Nat) : Rc3.it (k + 1) x = Rc3.s0 (Rc3.it k x) := Rc3.it_add k 1 x

set_option maxHeartbeats 1000000 in
theorem shifted_any (x : Nat) (hx : x < 4294967296) (w : World) :
    Calls Tryz.prog 74 #[.int .u32 (x : Int)] w fun e w' => e = .returned (.int .u32 ((Rc3.it 4 x : Nat) : Int)) ∧ w = w' := by
  have HX := Lib.hid hx
  clear hx
  go_enter Tryz.func74, Tryz.ntmps74
  go_wp2
  go_loop [0, 4] (fun r i => ∃ k y : Nat, k ≤ 4 ∧ Hid (y = Rc3.it k x ∧ y < 4294967296) ∧ r = .int .u32 (y : Int) ∧ i = .int .i64 k) (fun _ i => (4 - intOf i).toNat)
  case atStart => exact ⟨0, x, by omega, ⟨rfl, HX.out⟩, rfl, rfl⟩
  case round =>
    obtain ⟨k, y, hk, hy, rfl, rfl⟩ := hrel
    by_cases hlt : k < 4
    · have ha := and1 y hy.out.2
      rcases Nat.mod_two_eq_zero_or_one y with hm | hm <;> rw [hm] at ha
      · have HM := Lib.hid hm
        clear hm
        go_wp2
        go_round
        case rel => exact ⟨k + 1, y / 2, by omega, ⟨by rw [it_snoc, ← hy.out.1]; unfold Rc3.s0; rw [if_neg (by have := HM.out; omega)], by have := hy.out; omega⟩, by go_num, by go_num⟩
        case measure => simp [intOf]; omega
      · have HM := Lib.hid hm
        clear hm
        have hq : bits BinOp.xor IntKind.u32 ((y : Int) / 2) 3988292384 = ((y / 2 ^^^ 3988292384 : Nat) : Int) := xorP (y / 2) (by have := hy.out; omega)
        go_wp2
        go_round
        case rel => exact ⟨k + 1, y / 2 ^^^ 3988292384, by omega, ⟨by rw [it_snoc, ← hy.out.1]; unfold Rc3.s0; rw [if_pos HM.out], Nat.xor_lt_two_pow (n := 32) (by have := hy.out; omega) (by decide)⟩, by go_num, by go_num⟩
        case measure => simp [intOf]; omega
    · obtain rfl : k = 4 := by omega
      go_wp2
      go_ret
      rw [hy.out.1]
      exact ⟨rfl, rfl⟩

end Go.Proofs.YteellffkjjllgaaGreat
