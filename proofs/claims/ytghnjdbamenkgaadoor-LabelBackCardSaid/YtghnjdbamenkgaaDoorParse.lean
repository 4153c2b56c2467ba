/-
  What strconv.ParseUint answers at base 16 with 8 and with 32 bits: the number that the digits say, and no error, or an error. Condition: the text has at most 2^40 bytes; the library's two error variables hold values (Errs).
-/
import Derived.Test.YtghnjdbamenkgaaDoorMathU
import Derived.Test.YtghnjdbamenkgaaDoorFold
namespace Go.Proofs.YtghnjdbamenkgaaDoor
open Go.RowKit

/-- What a reading ends in: the number and no error, or an error of this library's kind. -/
def PU (max : Nat) (l : List UInt8) (x : Int) (ev : Value) : Prop :=
  (∃ v, Rc1.hx max 0 l = some v ∧ x = (v : Int) ∧ ev = .nilIface) ∨ (Rc1.hx max 0 l = none ∧ (ev = .iface 79 (.int .i64 2) ∨ ev = .iface 79 (.int .i64 1)))
def PostU (max : Nat) (l : List UInt8) (w : World) (e : Ending) (w' : World) : Prop := ∃ x ev, e = .returned (.tuple #[.int .u64 x, ev]) ∧ PU max l x ev ∧ Below w.heap.size w w'

theorem row_cells (w : World) (s : ByteArray) (cap : Nat) : ∀ j (hj : j < s.size), ((w.alloc (.cells (bytesRow s cap) 5 ((bytesRow s cap).size, (bytesRow s cap).size + 1))).drew).cell? ⟨w.heap.size, j, none⟩ = some (.int .u8 ((s[j]'hj).toNat : Int)) := by
  intro j hj
  have hold : ((w.alloc (.cells (bytesRow s cap) 5 ((bytesRow s cap).size, (bytesRow s cap).size + 1))).drew).heap[w.heap.size]? = some (.cells (bytesRow s cap) 5 ((bytesRow s cap).size, (bytesRow s cap).size + 1)) := (MapKept.heap_alloc w _).1
  rw [Lib.cell_of_heap hold, bytesRow_at s cap j hj]; rfl
theorem row_below (w : World) (s : ByteArray) (cap : Nat) : Below w.heap.size w ((w.alloc (.cells (bytesRow s cap) 5 ((bytesRow s cap).size, (bytesRow s cap).size + 1))).drew) :=
  Below.drew ((Below.refl _ w).alloc (Nat.le_refl _) _)

theorem or32 (c : Nat) (h : c < 256) : bits BinOp.or IntKind.u8 (c : Int) 32 = ((c ||| 32 : Nat) : Int) := by
  have key : ∀ c : Fin 256, bits BinOp.or IntKind.u8 ((c.val : Nat) : Int) 32 = ((c.val ||| 32 : Nat) : Int) := by decide +kernel
  exact key ⟨c, h⟩

theorem lower_any (c : Nat) (h : c < 256) (w : World) : Calls Tryd.prog 60 #[.int .u8 (c : Int)] w fun e w' => e = .returned (.int .u8 ((c ||| 32 : Nat) : Int)) ∧ w = w' := by
  refine (Tryd.internal_strconv_lower (c : Int) w).mono ?_
  rintro e w' ⟨rfl, rfl⟩
  rw [or32 c h]; exact ⟨rfl, rfl⟩

set_option maxHeartbeats 4000000 in
set_option maxRecDepth 100000 in
theorem iParseUint8 (t : ByteArray) (hne : t.size ≠ 0) (hmax : t.size ≤ 1099511627776) (w : World) :
    Calls Tryd.prog 51 #[.string t, .int .i64 16, .int .i64 8] w (PostU 255 t.data.toList w) := by
  have hemp : t.toList.isEmpty = false := by rw [isEmpty_of, decide_eq_false hne]
  have hcv := fun W => run_bytes_of_string (P := Tryd.prog) W 9 36 5 t Tryd.underlying9 Tryd.underlying36 Tryd.underlying5
  go_enter Tryd.func51, Tryd.ntmps51
  go_wp2
  clear hcv
  have hB := row_cells w t (grownCap w t.size 0 5)
  have hbel := row_below w t (grownCap w t.size 0 5)
  generalize ((w.alloc (.cells (bytesRow t (grownCap w t.size 0 5)) 5 ((bytesRow t (grownCap w t.size 0 5)).size, (bytesRow t (grownCap w t.size 0 5)).size + 1))).drew) = W1 at hB hbel ⊢
  have HB := Lib.hid hB
  clear hB hemp
  go_loop [12, 13, 101] (fun vu vn vi => ∃ (k acc : Nat) (a : Int), vu = .bool false ∧ vn = .int .u64 a ∧ vi = .int .i64 k ∧ k ≤ t.size ∧ Hid (a = (acc : Int) ∧ acc ≤ 255 ∧ Rc1.hx 255 0 t.data.toList = Rc1.hx 255 acc (t.data.toList.drop k))) (fun _ _ vi => t.size - (intOf vi).toNat)
  case atStart => exact ⟨0, 0, 0, rfl, rfl, rfl, by omega, rfl, by omega, rfl⟩
  case round =>
    obtain ⟨k, acc, a, rfl, rfl, rfl, hk, hh⟩ := hrel
    obtain ⟨ha, hacc, hdec⟩ := hh.out
    clear hh
    have a0 : 0 ≤ a := by omega
    have a1 : a ≤ 255 := by omega
    by_cases hkn : k < t.size
    · have hc := HB.out k hkn
      have hkn' : (k : Int) < t.size := by omega
      have hdrop : t.data.toList.drop k = (t[k]'hkn) :: t.data.toList.drop (k + 1) := List.drop_eq_getElem_cons (by rw [len_data]; exact hkn)
      rw [hdrop] at hdec
      have hc256 : (t[k]'hkn).toNat < 256 := UInt8.toNat_lt _
      have HLow := Lib.hid (lower_any (t[k]'hkn).toNat hc256)
      clear hdrop
      generalize t[k]'hkn = c at hc hdec hc256 HLow
      have HA := Lib.hid ha; have HAC := Lib.hid hacc
      by_cases hdig : 48 ≤ c.toNat ∧ c.toNat ≤ 57
      · have hdv : Rc1.dv c.toNat = some (c.toNat - 48) := by unfold Rc1.dv; rw [if_pos hdig]
        obtain ⟨hd0, hd1⟩ := hdig
        by_cases hm : acc * 16 + (c.toNat - 48) ≤ 255
        · have HN := Lib.hid (hdec.trans (Rc1.hx_digit hdv hm)); have HM := Lib.hid hm
          have hm' : a * 16 + (((c.toNat : Int) - 48) : Int) ≤ 255 := by omega
          clear hdec hdv ha hacc hm
          go_wp2
          go_round
          case rel =>
            refine ⟨k + 1, acc * 16 + (c.toNat - 48), _, rfl, rfl, by go_num, by omega, ?_⟩
            exact ⟨by have := HA.out; omega, HM.out, HN.out⟩
          case measure => simp [intOf]; omega
        · have HN := Lib.hid (hdec.trans (Rc1.hx_range hdv hm))
          have hm' : (255 : Int) < a * 16 + (((c.toNat : Int) - 48) : Int) := by omega
          clear hdec hdv ha hacc hm
          go_wp2
          go_ret2
          exact ⟨_, _, rfl, .inr ⟨HN.out, .inr rfl⟩, hbel⟩
      · have hdv0 : Rc1.dv c.toNat = if 97 ≤ c.toNat ||| 32 ∧ c.toNat ||| 32 ≤ 102 then some ((c.toNat ||| 32) - 87) else none := by unfold Rc1.dv; rw [if_neg hdig]
        generalize c.toNat ||| 32 = L at hdv0 HLow
        by_cases hL : 97 ≤ L ∧ L ≤ 122
        · obtain ⟨hL1, hL2⟩ := hL
          by_cases hL3 : L ≤ 102
          · have hdv : Rc1.dv c.toNat = some (L - 87) := by rw [hdv0, if_pos ⟨hL1, hL3⟩]
            have hd3 : c.toNat < 48 ∨ 57 < c.toNat := by omega
            clear hdv0 hdig
            cases h95 : ((c.toNat : Int) == 95) <;> rcases hd3 with hd3 | hd3
            all_goals
              by_cases hm : acc * 16 + (L - 87) ≤ 255
              · have HN := Lib.hid (hdec.trans (Rc1.hx_digit hdv hm)); have HM := Lib.hid hm
                have hm' : a * 16 + (((L : Int) - 87) : Int) ≤ 255 := by omega
                clear hdec hdv ha hacc hm
                go_wp2_with (go_at_call 60; ((with_reducible refine (HLow.out _).mono ?_)); rintro e w1 ⟨rfl, rfl⟩)
                go_round
                case rel =>
                  refine ⟨k + 1, acc * 16 + (L - 87), _, rfl, rfl, by go_num, by omega, ?_⟩
                  exact ⟨by have := HA.out; omega, HM.out, HN.out⟩
                case measure => simp [intOf]; omega
              · have HN := Lib.hid (hdec.trans (Rc1.hx_range hdv hm))
                have hm' : (255 : Int) < a * 16 + (((L : Int) - 87) : Int) := by omega
                clear hdec hdv ha hacc hm
                go_wp2_with (go_at_call 60; ((with_reducible refine (HLow.out _).mono ?_)); rintro e w1 ⟨rfl, rfl⟩)
                go_ret2
                exact ⟨_, _, rfl, .inr ⟨HN.out, .inr rfl⟩, hbel⟩
          · have hdv : Rc1.dv c.toNat = none := by rw [hdv0, if_neg (by omega)]
            have HN := Lib.hid (hdec.trans (Rc1.hx_none hdv))
            have hd3 : c.toNat < 48 ∨ 57 < c.toNat := by omega
            clear hdv0 hdig hdec hdv ha hacc
            cases h95 : ((c.toNat : Int) == 95) <;> rcases hd3 with hd3 | hd3
            all_goals
              go_wp2_with (go_at_call 60; ((with_reducible refine (HLow.out _).mono ?_)); rintro e w1 ⟨rfl, rfl⟩)
              go_ret2
              exact ⟨_, _, rfl, .inr ⟨HN.out, .inl rfl⟩, hbel⟩
        · have hdv : Rc1.dv c.toNat = none := by rw [hdv0, if_neg (by omega)]
          have HN := Lib.hid (hdec.trans (Rc1.hx_none hdv))
          have hd3 : c.toNat < 48 ∨ 57 < c.toNat := by omega
          have hd4 : L < 97 ∨ 122 < L := by omega
          clear hdv0 hdig hdec hdv hL ha hacc
          cases h95 : ((c.toNat : Int) == 95) <;> rcases hd3 with hd3 | hd3 <;> rcases hd4 with hd4 | hd4
          all_goals
              go_wp2_with (go_at_call 60; ((with_reducible refine (HLow.out _).mono ?_)); rintro e w1 ⟨rfl, rfl⟩)
              go_ret2
              exact ⟨_, _, rfl, .inr ⟨HN.out, .inl rfl⟩, hbel⟩
    · rw [drop_end t k hkn] at hdec
      have HN := Lib.hid hdec
      have HA := Lib.hid ha
      clear hdec ha
      go_wp2
      go_ret2
      exact ⟨_, _, rfl, .inl ⟨acc, by rw [HN.out]; rfl, HA.out, rfl⟩, hbel⟩

end Go.Proofs.YtghnjdbamenkgaaDoor
