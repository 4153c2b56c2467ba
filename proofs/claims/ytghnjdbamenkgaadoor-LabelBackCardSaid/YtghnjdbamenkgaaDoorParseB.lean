/-
  What the library's inner ParseUint answers at base 16 with 32 bits: the number that the digits say, and no error, or an error. Condition: the text is not empty and has at most 2^40 bytes.
-/
import Derived.Test.YtghnjdbamenkgaaDoorParse
namespace Go.Proofs.YtghnjdbamenkgaaDoor
open Go.RowKit

set_option maxHeartbeats 4000000 in
set_option maxRecDepth 100000 in
theorem iParseUint32 (t : ByteArray) (hne : t.size ≠ 0) (hmax : t.size ≤ 1099511627776) (w : World) :
    Calls Tryd.prog 51 #[.string t, .int .i64 16, .int .i64 32] w (PostU 4294967295 t.data.toList w) := by
  have hemp : t.toList.isEmpty = false := by rw [isEmpty_of, decide_eq_false hne]
  have hcv := fun W => run_bytes_of_string (P := Tryd.prog) W 9 36 5 t Tryd.underlying9 Tryd.underlying36 Tryd.underlying5
  go_enter Tryd.func51, Tryd.ntmps51
  go_wp2
  clear hcv
  have hB := row_cells w t (grownCap w t.size 0 5)
  have hbel := row_below w t (grownCap w t.size 0 5)
  generalize ((w.alloc (.cells (bytesRow t (grownCap w t.size 0 5)) 5 ((bytesRow t (grownCap w t.size 0 5)).size, (bytesRow t (grownCap w t.size 0 5)).size + 1))).drew) = W1 at hB hbel ⊢
  have HB := Lib.hid hB
  clear hB hemp
  go_loop [12, 13, 101] (fun vu vn vi => ∃ (k acc : Nat) (a : Int), vu = .bool false ∧ vn = .int .u64 a ∧ vi = .int .i64 k ∧ k ≤ t.size ∧ Hid (a = (acc : Int) ∧ acc ≤ 4294967295 ∧ Rc1.hx 4294967295 0 t.data.toList = Rc1.hx 4294967295 acc (t.data.toList.drop k))) (fun _ _ vi => t.size - (intOf vi).toNat)
  case atStart => exact ⟨0, 0, 0, rfl, rfl, rfl, by omega, rfl, by omega, rfl⟩
  case round =>
    obtain ⟨k, acc, a, rfl, rfl, rfl, hk, hh⟩ := hrel
    obtain ⟨ha, hacc, hdec⟩ := hh.out
    clear hh
    have a0 : 0 ≤ a := by omega
    have a1 : a ≤ 4294967295 := by omega
    by_cases hkn : k < t.size
    · have hc := HB.out k hkn
      have hkn' : (k : Int) < t.size := by omega
      have hdrop : t.data.toList.drop k = (t[k]'hkn) :: t.data.toList.drop (k + 1) := List.drop_eq_getElem_cons (by rw [len_data]; exact hkn)
      rw [hdrop] at hdec
      have hc256 : (t[k]'hkn).toNat < 256 := UInt8.toNat_lt _
      have HLow := Lib.hid (lower_any (t[k]'hkn).toNat hc256)
      clear hdrop
      generalize t[k]'hkn = c at hc hdec hc256 HLow
      have HA := Lib.hid ha; have HAC := Lib.hid hacc
      by_cases hdig : 48 ≤ c.toNat ∧ c.toNat ≤ 57
      · have hdv : Rc1.dv c.toNat = some (c.toNat - 48) := by unfold Rc1.dv; rw [if_pos hdig]
        obtain ⟨hd0, hd1⟩ := hdig
        by_cases hm : acc * 16 + (c.toNat - 48) ≤ 4294967295
        · have HN := Lib.hid (hdec.trans (Rc1.hx_digit hdv hm)); have HM := Lib.hid hm
          have hm' : a * 16 + (((c.toNat : Int) - 48) : Int) ≤ 4294967295 := by omega
          clear hdec hdv ha hacc hm
          go_wp2
          go_round
          case rel =>
            refine ⟨k + 1, acc * 16 + (c.toNat - 48), _, rfl, rfl, by go_num, by omega, ?_⟩
            exact ⟨by have := HA.out; omega, HM.out, HN.out⟩
          case measure => simp [intOf]; omega
        · have HN := Lib.hid (hdec.trans (Rc1.hx_range hdv hm))
          have hm' : (4294967295 : Int) < a * 16 + (((c.toNat : Int) - 48) : Int) := by omega
          clear hdec hdv ha hacc hm
          go_wp2
          go_ret2
          exact ⟨_, _, rfl, .inr ⟨HN.out, .inr rfl⟩, hbel⟩
      · have hdv0 : Rc1.dv c.toNat = if 97 ≤ c.toNat ||| 32 ∧ c.toNat ||| 32 ≤ 102 then some ((c.toNat ||| 32) - 87) else none := by unfold Rc1.dv; rw [if_neg hdig]
        generalize c.toNat ||| 32 = L at hdv0 HLow
        by_cases hL : 97 ≤ L ∧ L ≤ 122
        · obtain ⟨hL1, hL2⟩ := hL
          by_cases hL3 : L ≤ 102
          · have hdv : Rc1.dv c.toNat = some (L - 87) := by rw [hdv0, if_pos ⟨hL1, hL3⟩]
            have hd3 : c.toNat < 48 ∨ 57 < c.toNat := by omega
            clear hdv0 hdig
            cases h95 : ((c.toNat : Int) == 95) <;> rcases hd3 with hd3 | hd3
            all_goals
              by_cases hm : acc * 16 + (L - 87) ≤ 4294967295
              · have HN := Lib.hid (hdec.trans (Rc1.hx_digit hdv hm)); have HM := Lib.hid hm
                have hm' : a * 16 + (((L : Int) - 87) : Int) ≤ 4294967295 := by omega
                clear hdec hdv ha hacc hm
                go_wp2_with (go_at_call 60; ((with_reducible refine (HLow.out _).mono ?_)); rintro e w1 ⟨rfl, rfl⟩)
                go_round
                case rel =>
                  refine ⟨k + 1, acc * 16 + (L - 87), _, rfl, rfl, by go_num, by omega, ?_⟩
                  exact ⟨by have := HA.out; omega, HM.out, HN.out⟩
                case measure => simp [intOf]; omega
              · have HN := Lib.hid (hdec.trans (Rc1.hx_range hdv hm))
                have hm' : (4294967295 : Int) < a * 16 + (((L : Int) - 87) : Int) := by omega
                clear hdec hdv ha hacc hm
                go_wp2_with (go_at_call 60; ((with_reducible refine (HLow.out _).mono ?_)); rintro e w1 ⟨rfl, rfl⟩)
                go_ret2
                exact ⟨_, _, rfl, .inr ⟨HN.out, .inr rfl⟩, hbel⟩
          · have hdv : Rc1.dv c.toNat = none := by rw [hdv0, if_neg (by omega)]
            have HN := Lib.hid (hdec.trans (Rc1.hx_none hdv))
            have hd3 : c.toNat < 48 ∨ 57 < c.toNat := by omega
            clear hdv0 hdig hdec hdv ha hacc
            cases h95 : ((c.toNat : Int) == 95) <;> rcases hd3 with hd3 | hd3
            all_goals
              go_wp2_with (go_at_call 60; ((with_reducible refine (HLow.out _).mono ?_)); rintro e w1 ⟨rfl, rfl⟩)
              go_ret2
              exact ⟨_, _, rfl, .inr ⟨HN.out, .inl rfl⟩, hbel⟩
        · have hdv : Rc1.dv c.toNat = none := by rw [hdv0, if_neg (by omega)]
          have HN := Lib.hid (hdec.trans (Rc1.hx_none hdv))
          have hd3 : c.toNat < 48 ∨ 57 < c.toNat := by omega
          have hd4 : L < 97 ∨ 122 < L := by omega
          clear hdv0 hdig hdec hdv hL ha hacc
          cases h95 : ((c.toNat : Int) == 95) <;> rcases hd3 with hd3 | hd3 <;> rcases hd4 with hd4 | hd4
          all_goals
              go_wp2_with (go_at_call 60; ((with_reducible refine (HLow.out _).mono ?_)); rintro e w1 ⟨rfl, rfl⟩)
              go_ret2
              exact ⟨_, _, rfl, .inr ⟨HN.out, .inl rfl⟩, hbel⟩
    · rw [drop_end t k hkn] at hdec
      have HN := Lib.hid hdec
      have HA := Lib.hid ha
      clear hdec ha
      go_wp2
      go_ret2
      exact ⟨_, _, rfl, .inl ⟨acc, by rw [HN.out]; rfl, HA.out, rfl⟩, hbel⟩

end Go.Proofs.YtghnjdbamenkgaaDoor
