/-
  What the reference's hex and Quote answer: a number's digits in base 16, and a text as a quoted word. Condition: the text has at most 2^30 bytes.
-/
import Derived.Test.YtghnjdbamenkgaaDoorFold
import Derived.Test.YtghnjdbamenkgaaDoorMathE
import Derived.WalkSmall
namespace Go.Proofs.YtghnjdbamenkgaaDoor
open Go.RowKit

def D16 : ByteArray := ⟨#[48, 49, 50, 51, 52, 53, 54, 55, 56, 57, 97, 98, 99, 100, 101, 102]⟩

theorem dig_slice (j : Nat) (h : j < 16) (W : World) : (Instr.slice 9 (.string ⟨#[48, 49, 50, 51, 52, 53, 54, 55, 56, 57, 97, 98, 99, 100, 101, 102]⟩) (some (.int .i64 (j : Int))) (some (.int .i64 ((j : Int) + 1))) none).run Tryd.prog W = .ok (.string ⟨#[Rc1.dg j]⟩) W := by
  obtain rfl | rfl | rfl | rfl | rfl | rfl | rfl | rfl | rfl | rfl | rfl | rfl | rfl | rfl | rfl | rfl : j = 0 ∨ j = 1 ∨ j = 2 ∨ j = 3 ∨ j = 4 ∨ j = 5 ∨ j = 6 ∨ j = 7 ∨ j = 8 ∨ j = 9 ∨ j = 10 ∨ j = 11 ∨ j = 12 ∨ j = 13 ∨ j = 14 ∨ j = 15 := by omega
  all_goals kernel_rfl

theorem dig_rem (n : Nat) (W : World) : (Instr.slice 9 (.string ⟨#[48, 49, 50, 51, 52, 53, 54, 55, 56, 57, 97, 98, 99, 100, 101, 102]⟩) (some (.int .i64 ((n : Int) % 16))) (some (.int .i64 ((n : Int) % 16 + 1))) none).run Tryd.prog W = .ok (.string ⟨#[Rc1.dg (n % 16)]⟩) W := by
  have := dig_slice (n % 16) (by omega) W
  rwa [show ((n % 16 : Nat) : Int) = (n : Int) % 16 by omega] at this
theorem dig_quo (n : Nat) (h : n < 256) (W : World) : (Instr.slice 9 (.string ⟨#[48, 49, 50, 51, 52, 53, 54, 55, 56, 57, 97, 98, 99, 100, 101, 102]⟩) (some (.int .i64 ((n : Int) / 16))) (some (.int .i64 ((n : Int) / 16 + 1))) none).run Tryd.prog W = .ok (.string ⟨#[Rc1.dg (n / 16)]⟩) W := by
  have := dig_slice (n / 16) (by omega) W
  rwa [show ((n / 16 : Nat) : Int) = (n : Int) / 16 by omega] at this

/-- What is known while digits are laid ahead of acc. -/
def Hexing (N n : Nat) (acc : List UInt8) : Prop := (acc = [] ∧ n = N) ∨ (acc ≠ [] ∧ ((n = 0 ∧ acc = Rc1.hexL N) ∨ (0 < n ∧ Rc1.hexL n ++ acc = Rc1.hexL N)))

theorem Hexing.step {N n : Nat} {acc : List UInt8} (h : Hexing N n acc) (hg : 0 < n ∨ acc = []) : Hexing N (n / 16) (Rc1.dg (n % 16) :: acc) := by
  have key : Rc1.hexL n ++ acc = Rc1.hexL N := by
    rcases h with ⟨rfl, rfl⟩ | ⟨hne, ⟨rfl, h1⟩ | ⟨h1, h2⟩⟩
    · simp
    · rcases hg with h0 | h0
      · omega
      · exact absurd h0 hne
    · exact h2
  refine .inr ⟨by simp, ?_⟩
  by_cases h16 : n < 16
  · rw [Rc1.hexL_low n h16] at key
    exact .inl ⟨by omega, by rw [Nat.mod_eq_of_lt h16]; exact key⟩
  · rw [Rc1.hexL_high n (by omega)] at key
    exact .inr ⟨by omega, by rw [← key]; simp⟩

theorem Hexing.len {N n : Nat} {acc : List UInt8} (h : Hexing N n acc) (hN : N < 16777216) : acc.length ≤ 6 := by
  have h6 := Rc1.hexL_len8 N hN
  rcases h with ⟨rfl, rfl⟩ | ⟨hne, ⟨rfl, h1⟩ | ⟨h1, h2⟩⟩
  · simp
  · rw [h1]; exact h6
  · have := congrArg List.length h2
    rw [List.length_append] at this; omega


/-- One for the empty string, for a measure. -/
def one0 : Value → Nat
  | .string s => if s.size = 0 then 1 else 0
  | _ => 0

set_option maxHeartbeats 1000000 in
theorem hex_any (N : Nat) (hN : N ≤ 1114111) (w : World) :
    Calls Tryd.prog 34 #[.int .i64 N] w fun e w' => e = .returned (.string ⟨(Rc1.hexL N).toArray⟩) ∧ w = w' := by
  go_enter Tryd.func34, Tryd.ntmps34
  go_wp2
  go_loop [0, 3] (fun vn vs => ∃ (n : Nat) (o : ByteArray), vn = .int .i64 n ∧ vs = .string o ∧ n ≤ N ∧ Hexing N n o.data.toList) (fun vn vs => 2 * (intOf vn).toNat + one0 vs)
  case atStart => exact ⟨N, ⟨#[]⟩, rfl, rfl, Nat.le_refl _, .inl ⟨rfl, rfl⟩⟩
  case round =>
    obtain ⟨n, o, rfl, rfl, hn, hH⟩ := hrel
    have hol := hH.len (by omega)
    rw [len_data] at hol
    have HH := Lib.hid hH
    have hie := isEmpty_of o
    have hsl := dig_rem n
    clear hH
    by_cases h0 : 0 < n
    · have HST := Lib.hid (HH.out.step (.inl h0))
      have h0' : decide ((0 : Int) < n) = true := decide_eq_true (by omega)
      clear hie
      go_wp2
      go_round
      case rel =>
        refine ⟨n / 16, _, by go_num, rfl, by omega, ?_⟩
        rw [append_list]
        exact HST.out
      case measure =>
        simp only [intOf, one0]
        split <;> split <;> omega
    · have h0' : decide ((0 : Int) < n) = false := decide_eq_false (by omega)
      by_cases hz : o.size = 0
      · rw [decide_eq_true hz] at hie
        have HST := Lib.hid (HH.out.step (.inr (nil_of o hz)))
        have HZ := Lib.hid hz
        clear hz
        go_wp2
        go_round
        case rel =>
          refine ⟨n / 16, _, by go_num, rfl, by omega, ?_⟩
          rw [append_list]
          exact HST.out
        case measure =>
          simp only [one0, intOf]
          rw [if_pos HZ.out, if_neg (by rw [ByteArray.size_append]; show ¬ 1 + o.size = 0; omega)]
          omega
      · rw [decide_eq_false hz] at hie
        go_wp2
        go_ret
        refine ⟨?_, rfl⟩
        rcases HH.out with ⟨h1, -⟩ | ⟨-, ⟨-, h1⟩ | ⟨h1, -⟩⟩
        · exfalso; have := congrArg List.length h1; rw [len_data] at this; exact hz this
        · rw [← h1, of_list (a := o) rfl]; rfl
        · omega

theorem hex_rel (N : Nat) (hN : N ≤ 1114111) (w : World) : ∀ w1, Below w.heap.size w w1 → Calls Tryd.prog 34 #[.int .i64 N] w1 fun e w' => e = .returned (.string ⟨(Rc1.hexL N).toArray⟩) ∧ Below w.heap.size w w' :=
  fun w1 hb => (hex_any N hN w1).mono fun _ _ ⟨he, hw⟩ => ⟨he, hw ▸ hb⟩

set_option maxHeartbeats 4000000 in
set_option maxRecDepth 100000 in
theorem rQuote_any (s : ByteArray) (hs : s.size ≤ 1073741824) (w : World) :
    Calls Tryd.prog 25 #[.string s] w fun e w' => e = .returned (.string ⟨(Rc1.quote s.data.toList).toArray⟩) ∧ Below w.heap.size w w' := by
  have hB := Below.refl w.heap.size w
  have hie := isEmpty_of s
  by_cases h0 : s.size = 0
  · rw [decide_eq_true h0] at hie
    have HQ := Lib.hid (show Rc1.quote s.data.toList = [92, 95] by rw [nil_of s h0]; rfl)
    clear h0
    go_enter Tryd.func25, Tryd.ntmps25
    go_wp2
    go_ret
    rw [HQ.out]
    exact ⟨rfl, hB⟩
  · rw [decide_eq_false h0] at hie
    have HQ := Lib.hid (show Rc1.quote s.data.toList = Rc1.quoteF s.data.toList by
      unfold Rc1.quote; rw [if_neg]; intro e
      have := congrArg List.length e; rw [len_data] at this; exact h0 this)
    have HQL := Lib.hid (Rc1.quoteF_len s.data.toList)
    clear h0
    go_enter Tryd.func25, Tryd.ntmps25
    go_wp2
    go_loopw [0, 3, 4, 5, 6] (fun left out _ _ _ wr => ∃ (t o : ByteArray), left = .string t ∧ out = .string o ∧ t.size ≤ s.size ∧ Hid (o.data.toList ++ Rc1.quoteF t.data.toList = Rc1.quoteF s.data.toList) ∧ Below w.heap.size w wr) (fun left _ _ _ _ _ => szOf left)
    case atStart => exact ⟨s, ⟨#[]⟩, rfl, rfl, Nat.le_refl _, rfl, hB⟩
    case round =>
      obtain ⟨t, o, rfl, rfl, htl, hacc, hbr⟩ := hrel
      have hol : o.size ≤ 9 * s.size := by
        have h1 := congrArg List.length hacc.out
        have h2 := HQL.out
        rw [List.length_append, len_data] at h1
        rw [len_data] at h2
        omega
      have hie2 := isEmpty_of t
      clear hB hie
      by_cases hz : t.size = 0
      · rw [decide_eq_true hz] at hie2
        have HE := Lib.hid (show o.data.toList = Rc1.quoteF s.data.toList by
          have := hacc.out
          rw [nil_of t hz, Rc1.quoteF_nil, List.append_nil] at this; exact this)
        clear hz
        go_wp2
        go_ret
        refine ⟨?_, hbr⟩
        rw [HQ.out, ← HE.out, of_list (a := o) rfl]; rfl
      · rw [decide_eq_false hz] at hie2
        have h0 : 0 < t.size := by omega
        have h0' : (0 : Int) < t.size := by omega
        have hne : t.data.toList ≠ [] := by intro e; have := congrArg List.length e; rw [len_data] at this; exact hz this
        have hR := Rune_rel t h0 (by omega) w
        have hdf := Rc1.dec_facts _ hne
        have hd1 := hdf.1
        have hd3 := hdf.2.2.1
        have hd4 := hdf.2.2.2.1
        rw [len_data] at hd3
        have HQC := Lib.hid (Rc1.quoteF_cons _ hne)
        have HNE := Lib.hid hne
        have hb256 : (t[0]'h0).toNat < 256 := UInt8.toNat_lt _
        have G0 := Lib.hid (get_bt t 0 h0)
        have hext := extract_list t (Rc1.dec t.data.toList).2
        have HEXT := Lib.hid hext
        clear hdf hz hne hext
        have fin : ∀ (o' : ByteArray), o'.data.toList = o.data.toList ++ Rc1.qc t.data.toList → o'.data.toList ++ Rc1.quoteF (t.extract (Rc1.dec t.data.toList).2 t.size).data.toList = Rc1.quoteF s.data.toList := by
          intro o' ho'
          rw [ho', HEXT.out, ← hacc.out, HQC.out, List.append_assoc]
        have FIN := Lib.hid fin
        clear fin
        cases hw : Rc1.wr t.data.toList with
        | true =>
          rw [rr_bad hw] at hR
          have hwh := Rc1.wr_high _ hw
          have hd2 : (Rc1.dec t.data.toList).2 = 1 := hwh.2.1
          have hg1 := hwh.1
          rw [G0.out] at hg1
          have HQW := Lib.hid (show Rc1.qc t.data.toList = ([92, 33] : List UInt8) ++ [Rc1.dg ((t[0]'h0).toNat / 16)] ++ [Rc1.dg ((t[0]'h0).toNat % 16)] by
            unfold Rc1.qc; rw [hw, G0.out, Rc1.hexL_two _ (by omega) hb256]; rfl)
          have HR := Lib.hid hR
          have HD2 := Lib.hid hd2
          have hs1 := dig_rem (t[0]'h0).toNat
          have hs2 := dig_quo (t[0]'h0).toNat hb256
          clear hR hw hwh hd2
          go_wp2_with (go_at_call 27; ((with_reducible refine (HR.out _ (by assumption)).mono ?_)); rintro e w1 ⟨rfl, hbw⟩)
          go_region
          go_wp2
          go_roundw
          case rel =>
            refine ⟨_, _, rfl, rfl, ?_, ?_, hbw.drew⟩
            · simp; omega
            · have hf := FIN.out _ (show (o ++ ⟨#[92, 33]⟩ ++ ⟨#[Rc1.dg ((t[0]'h0).toNat / 16)]⟩ ++ ⟨#[Rc1.dg ((t[0]'h0).toNat % 16)]⟩ : ByteArray).data.toList = _ by
                rw [append_list, append_list, append_list, HQW.out]; simp)
              rw [HD2.out] at hf
              exact hf
          case measure => simp [szOf]; omega
        | false =>
          rw [rr_good hw] at hR
          have HR := Lib.hid hR
          have hqr : Rc1.qc t.data.toList = Rc1.qr (Rc1.dec t.data.toList).1 := by unfold Rc1.qc; rw [hw]; rfl
          have HQR := Lib.hid hqr
          have hlow : (Rc1.dec t.data.toList).1 < 128 → Rc1.bt t.data.toList 0 = (Rc1.dec t.data.toList).1 := by
            intro h
            rcases Nat.lt_or_ge (Rc1.bt t.data.toList 0) 128 with h1 | h1
            · rw [Rc1.dec_low _ h1]
            · have := Rc1.dec_high _ h1; omega
          have HLOW := Lib.hid hlow
          have hhex := hex_rel (Rc1.dec t.data.toList).1 hd4 w
          have HHEX := Lib.hid hhex
          have h6 := Rc1.hexL_len8 (Rc1.dec t.data.toList).1 (by omega)
          have hhz : (⟨(Rc1.hexL (Rc1.dec t.data.toList).1).toArray⟩ : ByteArray).size ≤ 6 := by rw [size_mk]; exact h6
          clear hR hw hqr hlow hhex
          by_cases h92 : (Rc1.dec t.data.toList).1 = 92
          · have HQ9 := Lib.hid (show Rc1.qc t.data.toList = [92, 92] by rw [HQR.out]; unfold Rc1.qr; rw [if_pos h92])
            have e9 : (((Rc1.dec t.data.toList).1 : Int) == 92) = true := by rw [h92]; rfl
            clear h92
            go_wp2_with (go_at_call 27; ((with_reducible refine (HR.out _ (by assumption)).mono ?_)); rintro e w1 ⟨rfl, hbw⟩)
            go_roundw
            case rel =>
              refine ⟨_, _, rfl, rfl, ?_, FIN.out _ ?_, hbw⟩
              · simp; omega
              · rw [append_list, HQ9.out]
            case measure => simp [szOf]; omega
          · have e9 : (((Rc1.dec t.data.toList).1 : Int) == 92) = false := by rw [beq_eq_false_iff_ne]; omega
            by_cases hp : 33 ≤ (Rc1.dec t.data.toList).1 ∧ (Rc1.dec t.data.toList).1 ≤ 126
            · have HQ9 := Lib.hid (show Rc1.qc t.data.toList = [t[0]'h0] by
                rw [HQR.out]; unfold Rc1.qr; rw [if_neg h92, if_pos hp]
                have := HLOW.out (by omega)
                rw [G0.out] at this
                rw [← this]; simp)
              have q1 : decide ((33 : Int) ≤ (Rc1.dec t.data.toList).1) = true := decide_eq_true (by omega)
              have q2 : decide (((Rc1.dec t.data.toList).1 : Int) ≤ 126) = true := decide_eq_true (by omega)
              have h11 : (1 : Int) ≤ t.size := by omega
              obtain ⟨hp1, hp2⟩ := hp
              clear h92
              go_wp2_with (go_at_call 27; ((with_reducible refine (HR.out _ (by assumption)).mono ?_)); rintro e w1 ⟨rfl, hbw⟩)
              go_roundw
              case rel =>
                refine ⟨_, _, rfl, rfl, ?_, FIN.out _ ?_, hbw⟩
                · simp; omega
                · rw [append_list, HQ9.out, extract_take, Rc1.take1 _ (by rw [len_data]; exact h0)]; rfl
              case measure => simp [szOf]; omega
            · have HQ9 := Lib.hid (show Rc1.qc t.data.toList = [92, 123] ++ Rc1.hexL (Rc1.dec t.data.toList).1 ++ [125] by
                rw [HQR.out]; unfold Rc1.qr; rw [if_neg h92, if_neg hp])
              have h3 : (Rc1.dec t.data.toList).1 < 33 ∨ 126 < (Rc1.dec t.data.toList).1 := by omega
              clear h92 hp
              rcases h3 with h3 | h3
              all_goals
                go_wp2_with (first | (go_at_call 27; ((with_reducible refine (HR.out _ (by assumption)).mono ?_)); rintro e w1 ⟨rfl, hbw⟩) | (go_at_call 34; ((with_reducible refine (HHEX.out _ (by assumption)).mono ?_)); rintro e w1 ⟨rfl, hbw⟩))
                go_roundw
                case rel =>
                  refine ⟨_, _, rfl, rfl, ?_, FIN.out _ ?_, hbw⟩
                  · simp; omega
                  · rw [append_list, append_list, append_list, HQ9.out]; simp
                case measure => simp [szOf]; omega

end Go.Proofs.YtghnjdbamenkgaaDoor
