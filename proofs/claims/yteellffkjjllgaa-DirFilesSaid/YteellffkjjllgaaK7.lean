/-
  Contracts of functions of Go's own library, each laid over this program's numbers: what each answers, and that what was in memory stays. Conditions: as each theorem states them.
  What the test for a wrong byte answers. Condition: the text has at most as many bytes as a text may have.
  Whether a text may be a name, as the program answers it. Condition: the text has at most as many bytes as a text may have.
  What the document: its own reading of a rune answers. Condition: the text has a byte, and at most as many as a text may have.
  Whether a text may be a name, as the document itself answers it. Condition: the text has at most as many bytes as a text may have.
-/
import Derived.Test.YteellffkjjllgaaK6
import Derived.Test.YteellffkjjllgaaK2
import Derived.Test.YteellffkjjllgaaK4
import Derived.Shelf.Strings.Builder1
import Derived.Shelf.Strings.Builder2
import Derived.Shelf.Strings.OnBuilder
import Derived.Shelf.Strings.BuilderF
import Derived.Shelf.Strings.BuilderK
import Derived.Shelf.Strings.Prefix
import Derived.Shelf.Slices.Turned
import Derived.Test.YteellffkjjllgaaProg
import Derived.WalkKit
import Derived.WalkSpells
import Derived.BigCall
import Derived.BigQuiet
import Derived.Deep.QuietTactic
import Derived.RegionTactic
import Derived.ChangeAlike
namespace Go.Proofs
open Go.Shelf
def Try.lays169_ren : Go.Shelf.Ren := ⟨fun | 169 => 73 | n => n, fun | 70 => 110 | 9 => 9 | 0 => 0 | 72 => 112 | 37 => 54 | 127 => 125 | 3 => 3 | 5 => 5 | n => n, fun | n => n⟩
theorem Try.lays169 : Go.Proofs.Lays.n169 Try.prog Try.lays169_ren := {
  mixed := by kernel_rfl
  f169 := Try.func73.trans (congrArg some (by kernel_rfl))
  t0 := Try.underlying0
  a0 := Try.isAgg0
  z0 := Try.sizeOf0
  v0 := Try.zeroValue0
  t3 := Try.underlying3
  a3 := Try.isAgg3
  z3 := Try.sizeOf3
  v3 := Try.zeroValue3
  t9 := Try.underlying9
  a9 := Try.isAgg9
  z9 := Try.sizeOf9
  v9 := Try.zeroValue9
  t37 := Try.underlying54
  a37 := Try.isAgg54
  z37 := Try.sizeOf54
  v37 := Try.zeroValue54
  t70 := Try.underlying110
  a70 := Try.isAgg110
  z70 := Try.sizeOf110
  v70 := Try.zeroValue110
  t72 := Try.underlying112
  a72 := Try.isAgg112
  z72 := Try.sizeOf112
  v72 := Try.zeroValue112
  t127 := Try.underlying125
  a127 := Try.isAgg125
  z127 := Try.sizeOf125
  v127 := Try.zeroValue125 }
theorem Try.Builder_Extra_169 : Builder.Extra Try.prog Try.lays169_ren := {
  sizeBuilder := by kernel_rfl
  liesBuilder := by kernel_rfl
  t5 := Try.underlying5
  a5 := Try.isAgg5
  z5 := Try.sizeOf5
  v5 := Try.zeroValue5
  infoByte := by kernel_rfl
  cellsByte := by kernel_rfl
  sizeByte := by kernel_rfl
  neB5 := by decide }
def Try.lays156_ren : Go.Shelf.Ren := ⟨fun | 156 => 48 | 165 => 71 | 166 => 72 | 169 => 73 | 240 => 86 | 241 => 87 | 276 => 97 | 277 => 98 | n => n, fun | 31 => 74 | 9 => 9 | 3 => 3 | 4 => 4 | 0 => 0 | 20 => 20 | 72 => 112 | 76 => 116 | 70 => 110 | 37 => 54 | 75 => 115 | 127 => 125 | 164 => 138 | 5 => 5 | 80 => 77 | n => n, fun | n => n⟩
theorem Try.lays156 : Go.Proofs.Lays.n156 Try.prog Try.lays156_ren := {
  mixed := by kernel_rfl
  f156 := Try.func48.trans (congrArg some (by kernel_rfl))
  f165 := Try.func71.trans (congrArg some (by kernel_rfl))
  f166 := Try.func72.trans (congrArg some (by kernel_rfl))
  f169 := Try.func73.trans (congrArg some (by kernel_rfl))
  f240 := Try.func86.trans (congrArg some (by kernel_rfl))
  f241 := Try.func87.trans (congrArg some (by kernel_rfl))
  f276 := Try.func97.trans (congrArg some (by kernel_rfl))
  f277 := Try.func98.trans (congrArg some (by kernel_rfl))
  t0 := Try.underlying0
  a0 := Try.isAgg0
  z0 := Try.sizeOf0
  v0 := Try.zeroValue0
  t3 := Try.underlying3
  a3 := Try.isAgg3
  z3 := Try.sizeOf3
  v3 := Try.zeroValue3
  t4 := Try.underlying4
  a4 := Try.isAgg4
  z4 := Try.sizeOf4
  v4 := Try.zeroValue4
  t9 := Try.underlying9
  a9 := Try.isAgg9
  z9 := Try.sizeOf9
  v9 := Try.zeroValue9
  t20 := Try.underlying20
  a20 := Try.isAgg20
  z20 := Try.sizeOf20
  v20 := Try.zeroValue20
  t31 := Try.underlying74
  a31 := Try.isAgg74
  z31 := Try.sizeOf74
  v31 := Try.zeroValue74
  t37 := Try.underlying54
  a37 := Try.isAgg54
  z37 := Try.sizeOf54
  v37 := Try.zeroValue54
  t70 := Try.underlying110
  a70 := Try.isAgg110
  z70 := Try.sizeOf110
  v70 := Try.zeroValue110
  t72 := Try.underlying112
  a72 := Try.isAgg112
  z72 := Try.sizeOf112
  v72 := Try.zeroValue112
  t75 := Try.underlying115
  a75 := Try.isAgg115
  z75 := Try.sizeOf115
  v75 := Try.zeroValue115
  t76 := Try.underlying116
  a76 := Try.isAgg116
  z76 := Try.sizeOf116
  v76 := Try.zeroValue116
  t127 := Try.underlying125
  a127 := Try.isAgg125
  z127 := Try.sizeOf125
  v127 := Try.zeroValue125
  t164 := Try.underlying138
  a164 := Try.isAgg138
  z164 := Try.sizeOf138
  v164 := Try.zeroValue138 }
theorem Try.Builder_Extra_156 : Builder.Extra Try.prog Try.lays156_ren := {
  sizeBuilder := by kernel_rfl
  liesBuilder := by kernel_rfl
  t5 := Try.underlying5
  a5 := Try.isAgg5
  z5 := Try.sizeOf5
  v5 := Try.zeroValue5
  infoByte := by kernel_rfl
  cellsByte := by kernel_rfl
  sizeByte := by kernel_rfl
  neB5 := by decide }
open Go.RowKit in
theorem Try.strings_Join_none (a : Option Addr) (c : Nat) (sep : ByteArray) (w : World) :
    Calls Try.prog 48 #[.slice a 0 c, .string sep] w fun e w' => e = .returned (.string ⟨#[]⟩) ∧ w' = w := Any.strings_Join_none Try.lays156 Try.Builder_Extra_156 a c sep w
open Go.RowKit in
theorem Try.strings_Join (bk o c : Nat) (xs : List ByteArray) (sep : ByteArray) (w : World) (hcells : ∀ (j : Nat) x, xs[j]? = some x → w.cell? ⟨bk, o + j, none⟩ = some (.string x)) (hbk : bk < w.heap.size) (hN : xs.length ≤ 140737488355328) (hcap : xs.length ≤ c) (hlen : (Lib.join (xs.map (·.data.toList)) sep.data.toList).length ≤ 140737488355328) :
    Calls Try.prog 48 #[.slice (some ⟨bk, o, none⟩) xs.length c, .string sep] w fun e w' => e = .returned (.string ⟨(Lib.join (xs.map (·.data.toList)) sep.data.toList).toArray⟩) ∧ Below w.heap.size w w' := Any.strings_Join Try.lays156 Try.Builder_Extra_156 bk o c xs sep w hcells hbk hN hcap hlen
open Go.RowKit in
theorem Try.Builder_String_any_k (B b : Nat) (l : List UInt8) (w : World) (h : Lib.IsBuilderF 112 5 B b (Lib.byteCells l) w) (hBw : B ≤ w.heap.size) :
    Calls Try.prog 73 #[.pointer (some ⟨b, 0, none⟩)] w fun e w' => e = .returned (.string ⟨l.toArray⟩) ∧ (Lib.IsBuilderF 112 5 B b (Lib.byteCells l) w' ∧ Below B w w' ∧ Lib.OthersKept 5 (some b) w w') := Any.Builder_String_any_k Try.lays169 Try.Builder_Extra_169 B b l w h hBw
def Try.lays99_ren : Go.Shelf.Ren := ⟨fun | 99 => 101 | 206 => 104 | n => n, fun | 9 => 9 | 4 => 4 | 3 => 3 | n => n, fun | n => n⟩
theorem Try.lays99 : Go.Proofs.Lays.n99 Try.prog Try.lays99_ren := {
  mixed := by kernel_rfl
  f99 := Try.func101.trans (congrArg some (by kernel_rfl))
  f206 := Try.func104.trans (congrArg some (by kernel_rfl))
  t3 := Try.underlying3
  a3 := Try.isAgg3
  z3 := Try.sizeOf3
  v3 := Try.zeroValue3
  t4 := Try.underlying4
  a4 := Try.isAgg4
  z4 := Try.sizeOf4
  v4 := Try.zeroValue4
  t9 := Try.underlying9
  a9 := Try.isAgg9
  z9 := Try.sizeOf9
  v9 := Try.zeroValue9 }
open Go.RowKit Go.Lib in
theorem Try.strings_HasPrefix (s p : ByteArray) (w : World) :
    Calls Try.prog 101 #[.string s, .string p] w fun e w' => e = .returned (.bool (Lib.hasPrefix s.data.toList p.data.toList)) ∧ w' = w := Any.strings_HasPrefix Try.lays99 s p w
end Go.Proofs

namespace Go.Proofs.Yteellffkjjllgaa
open Go.RowKit

theorem drop_ne {s : ByteArray} {pos : Nat} (h : pos < s.size) : s.data.toList.drop pos ≠ [] := by
  intro e
  have := congrArg List.length e
  simp at this
  have : s.data.size = s.size := rfl
  omega

theorem drop_size (s : ByteArray) (pos : Nat) : (s.data.toList.drop pos).length = s.size - pos := by
  simp

theorem extract_list (s : ByteArray) (a : Nat) : (s.extract a s.size).data.toList = s.data.toList.drop a := by
  rw [ByteArray.data_extract, Array.toList_extract, List.extract_eq_take_drop]
  exact List.take_of_length_le (by rw [drop_size]; exact Nat.le_refl _)

set_option maxHeartbeats 400000 in
theorem wrong_any (s : ByteArray) (pos : Nat) (hp : pos < s.size) (_hs : s.size ≤ 9223372036854775807) (w : World) :
    Calls Try.prog 92 #[.string s, .int .i64 pos, .int .i32 (Utf8.decode s pos).1] w fun e w' => e = .returned (.bool (Rc1.wr (s.data.toList.drop pos))) ∧ w = w' := by
  have hw := Rc1.wr_eq (s.data.toList.drop pos) (drop_ne hp)
  rw [← Rc1.decode_eq] at hw
  by_cases h1 : (Utf8.decode s pos).1 = 65533
  · have HW := Lib.hid hw
    have h2 : (((Utf8.decode s pos).1 : Int) == 65533) = true := by rw [h1]; rfl
    have H1 := Lib.hid h1
    clear hw h1
    go_enter Try.func92, Try.ntmps92
    go_wp2_with (go_at_call 101; refine (Try.strings_HasPrefix _ _ _).mono ?_; rintro e w' ⟨rfl, rfl⟩)
    go_ret
    refine ⟨?_, rfl⟩
    rw [HW.out]
    simp [H1.out, Lib.hasPrefix]
    rw [List.take_of_length_le (by rw [drop_size]; exact Nat.le_refl _)]
  · have HW := Lib.hid hw
    have h2 : (((Utf8.decode s pos).1 : Int) == 65533) = false := by rw [beq_eq_false_iff_ne]; omega
    have H1 := Lib.hid h1
    clear hw h1
    go_enter Try.func92, Try.ntmps92
    go_wp2
    go_ret
    refine ⟨?_, rfl⟩
    rw [HW.out]
    simp [H1.out]

theorem bt_at (s : ByteArray) (pos : Nat) (hp : pos < s.size) : Rc1.bt (s.data.toList.drop pos) 0 = (s[pos]'hp).toNat := by
  have hp' : pos < s.data.size := hp
  rw [Rc1.bt_drop]
  simp [Rc1.bt, List.getD_eq_getElem?_getD, Array.getElem?_eq_getElem hp']
  rfl

theorem isEmpty_of (s : ByteArray) : s.toList.isEmpty = decide (s.size = 0) := by
  rw [ByteArray.toList_eq, Bool.eq_iff_iff]
  simp only [List.isEmpty_iff, decide_eq_true_eq]
  rw [← List.length_eq_zero_iff, Array.length_toList]
  rfl

theorem nil_of (s : ByteArray) (h : s.size = 0) : s.data.toList = [] := by
  rw [← List.length_eq_zero_iff, Array.length_toList]; exact h

end Go.Proofs.Yteellffkjjllgaa

namespace Go.Proofs.Yteellffkjjllgaa
open Go.RowKit

theorem len_data (s : ByteArray) : s.data.toList.length = s.size := by simp

theorem below_iter (w : World) (s : ByteArray) (pos : Nat) : Below w.heap.size w (w.iter s pos) := (Below.refl _ w).alloc (Nat.le_refl _) _

theorem right_long {l : List UInt8} (h : 24 < Rc1.count l) : Rc1.right l = false := by
  unfold Rc1.right
  rw [show decide (1 ≤ Rc1.count l ∧ Rc1.count l ≤ 24) = false from decide_eq_false (by omega)]; rfl

theorem right_bad {l : List UInt8} (h : (Rc1.cut l).all Rc1.okc = false) : Rc1.right l = false := by
  unfold Rc1.right
  rw [h]; simp

theorem get_bt (s : ByteArray) (k : Nat) (h : k < s.size) : Rc1.bt s.data.toList k = (s[k]'h).toNat := by
  have := bt_at s k h
  rw [Rc1.bt_drop] at this; exact this

theorem right_end {s : ByteArray} {m : Nat} (hm : m = Rc1.count s.data.toList) (h24 : m ≤ 24) (hal : (Rc1.cut s.data.toList).all Rc1.okc = true) (h0 : 0 < m) (hs : 0 < s.size) :
    Rc1.right s.data.toList = (((s[0]'hs).toNat : Int) != 32 && ((s[s.size - 1]'(by omega)).toNat : Int) != 32) := by
  unfold Rc1.right
  rw [← hm, hal, decide_eq_true (by omega), len_data, get_bt s 0 hs, get_bt s (s.size - 1) (by omega)]
  simp only [Bool.true_and]
  congr 1 <;> (rw [Bool.eq_iff_iff]; simp only [decide_eq_true_eq, bne_iff_ne, ne_eq]; omega)

set_option maxHeartbeats 1000000 in
theorem Right_any (s : ByteArray) (hs : s.size ≤ 9223372036854775807) (w : World) :
    Calls Try.prog 82 #[.string s] w fun e w' => e = .returned (.bool (Rc1.right s.data.toList)) ∧ Below w.heap.size w w' := by
  have HL := Lib.hid (len_data s)
  go_enter Try.func82, Try.ntmps82
  go_wp2
  go_loopw [3, 4, 5] (fun k _ _ w' => ∃ (pos m : Nat), w' = w.iter s pos ∧ k = .int .i64 m ∧ Rc1.At s.data.toList pos m ∧ m ≤ 24 ∧ Hid (((Rc1.cut s.data.toList).take m).all Rc1.okc = true)) (fun _ _ _ w' => s.size - w'.iterPos w.heap.size)
  case atStart => exact ⟨0, 0, rfl, rfl, Rc1.At.zero _, Nat.zero_le _, rfl⟩
  case round =>
    obtain ⟨pos, m, rfl, rfl, hA, h24, hal⟩ := hrel
    have hps := hA.1
    rw [HL.out] at hps
    have HA := Lib.hid hA
    clear hA
    by_cases hp : pos < s.size
    · have hnx : ∀ ty, (Instr.next (.pointer (some ⟨w.heap.size, 0, none⟩)) true ty).run Try.prog (w.iter s pos) = _ := fun ty => run_next_any w s pos ty hp
      have HWc := Lib.hid (wrong_any s pos hp hs)
      have HDE := Lib.hid (Rc1.decode_eq s pos)
      have hlt : pos < s.data.toList.length := by rw [HL.out]; exact hp
      have bad : Rc1.okc (s.data.toList.drop pos) = false → Rc1.right s.data.toList = false := fun h => right_bad (HA.out.bad hlt _ Rc1.okc_take h)
      have BAD := Lib.hid bad
      have HLT := Lib.hid hlt
      clear bad hlt
      by_cases hc1 : m = 24
      · have HC1 := Lib.hid hc1
        have hc1' : decide (24 < (m : Int) + 1) = true := decide_eq_true (by omega)
        have hc1'' : 24 < (m : Int) + 1 := by omega
        clear hc1
        go_wp2
        go_ret
        rw [right_long (by have := HA.out.count_lt HLT.out; have := HC1.out; omega)]
        exact ⟨rfl, below_iter _ _ _⟩
      · have hc1' : decide (24 < (m : Int) + 1) = false := decide_eq_false (by omega)
        have hc1'' : (m : Int) + 1 ≤ 24 := by omega
        by_cases hc2 : (Utf8.decode s pos).1 < 32
        · have hc2' : decide (((Utf8.decode s pos).1 : Int) < 32) = true := decide_eq_true (by omega)
          have hc2'' : decide ((Utf8.decode s pos).1 < 32) = true := decide_eq_true (by omega)
          have HC2 := Lib.hid hc2
          clear hc2
          go_wp2
          go_ret
          rw [BAD.out (by unfold Rc1.okc; rw [← HDE.out, decide_eq_false (by have := HC2.out; omega)]; rfl)]
          exact ⟨rfl, below_iter _ _ _⟩
        · have hc2' : decide (((Utf8.decode s pos).1 : Int) < 32) = false := decide_eq_false (by omega)
          have hc2'' : decide ((Utf8.decode s pos).1 < 32) = false := decide_eq_false (by omega)
          by_cases hc3 : (Utf8.decode s pos).1 = 127
          · have hc3' : (((Utf8.decode s pos).1 : Int) == 127) = true := by rw [hc3]; rfl
            have HC3 := Lib.hid hc3
            clear hc3
            go_wp2
            go_ret
            rw [BAD.out (by unfold Rc1.okc; rw [← HDE.out, HC3.out]; rfl)]
            exact ⟨rfl, below_iter _ _ _⟩
          · have hc3' : (((Utf8.decode s pos).1 : Int) == 127) = false := by rw [beq_eq_false_iff_ne]; omega
            have HC3 := Lib.hid hc3
            clear hc3
            cases hwr : Rc1.wr (s.data.toList.drop pos) with
            | true =>
              have hWc := HWc.out
              rw [hwr] at hWc
              have HWC := Lib.hid hWc
              have HWR := Lib.hid hwr
              clear hWc hwr
              go_wp2_with (go_at_call 92; refine (HWC.out _).mono ?_; rintro e w1 ⟨rfl, rfl⟩)
              go_ret
              rw [BAD.out (by unfold Rc1.okc; rw [HWR.out]; simp)]
              exact ⟨rfl, below_iter _ _ _⟩
            | false =>
              have hWc := HWc.out
              rw [hwr] at hWc
              have HWC := Lib.hid hWc
              have HWR := Lib.hid hwr
              clear hWc hwr
              go_wp2_with (go_at_call 92; refine (HWC.out _).mono ?_; rintro e w1 ⟨rfl, rfl⟩)
              go_roundw
              case rel =>
                refine ⟨_, m + 1, rfl, by go_num, by rw [Rc1.decode_eq]; exact HA.out.step HLT.out, by omega, ?_⟩
                show _ = true
                rw [HA.out.all HLT.out _ Rc1.okc_take, hal.out]
                unfold Rc1.okc
                rw [HWR.out, ← HDE.out, decide_eq_true (by omega), decide_eq_false HC3.out]; rfl
              case measure =>
                have := Rc1.dec_pos _ (drop_ne hp)
                rw [← Rc1.decode_eq] at this
                simp; omega
    · have hnx : ∀ ty, (Instr.next (.pointer (some ⟨w.heap.size, 0, none⟩)) true ty).run Try.prog (w.iter s pos) = _ := fun ty => run_next_end w s pos ty hp
      have hmc := HA.out.over (by rw [HL.out]; exact hp)
      have h2 := hal.out
      rw [hmc, List.take_length] at h2
      have H2 := Lib.hid h2
      have HMC := Lib.hid hmc
      clear h2 hmc
      by_cases hm0 : m = 0
      · subst hm0
        go_wp2
        go_ret
        refine ⟨?_, below_iter _ _ _⟩
        unfold Rc1.right Rc1.count
        rw [← HMC.out]; rfl
      · have h0 : 0 < s.size := by have := HA.out.2.2.1; omega
        have hE := right_end (s := s) HMC.out h24 H2.out (by omega) h0
        have HE := Lib.hid hE
        have hm0' : 0 < (m : Int) := by omega
        clear hE
        cases h32 : (((s[0]'h0).toNat : Int) != 32) with
        | false =>
          go_wp2
          go_ret
          refine ⟨?_, below_iter _ _ _⟩
          rw [HE.out, h32]; rfl
        | true =>
          have hl1 : (1 : Int) ≤ s.size := by omega
          go_wp2
          go_ret
          refine ⟨?_, below_iter _ _ _⟩
          rw [HE.out, h32]; rfl

end Go.Proofs.Yteellffkjjllgaa

namespace Go.Proofs.Yteellffkjjllgaa
open Go.RowKit

theorem mB_eq (s : ByteArray) (i : Nat) (h : i < s.size) : Rc1.mB s.data.toList i = (decide (128 ≤ (s[i]'h).toNat) && decide ((s[i]'h).toNat ≤ 191)) := by
  unfold Rc1.mB
  rw [get_bt s i h, len_data, Bool.eq_iff_iff]
  simp only [decide_eq_true_eq, Bool.and_eq_true]
  omega

theorem mB_out (s : ByteArray) (i : Nat) (h : ¬ i < s.size) : Rc1.mB s.data.toList i = false := by
  unfold Rc1.mB; rw [len_data]; exact decide_eq_false (by omega)

set_option maxHeartbeats 400000 in
theorem more_any (s : ByteArray) (i : Nat) (_hs : s.size ≤ 140737488355328) (_hi : i ≤ 8) (w : World) :
    Calls Try.prog 99 #[.string s, .int .i64 i] w fun e w' => e = .returned (.bool (Rc1.mB s.data.toList i)) ∧ w = w' := by
  by_cases h : i < s.size
  · have HM := Lib.hid (mB_eq s i h)
    by_cases h1 : 128 ≤ (s[i]'h).toNat
    · have h1' : decide (128 ≤ (s[i]'h).toNat) = true := decide_eq_true h1
      go_enter Try.func99, Try.ntmps99
      go_wp2
      go_ret
      rw [HM.out, h1']
      refine ⟨?_, rfl⟩
      simp
      omega
    · have h1' : decide (128 ≤ (s[i]'h).toNat) = false := decide_eq_false h1
      go_enter Try.func99, Try.ntmps99
      go_wp2
      go_ret
      rw [HM.out, h1']
      exact ⟨rfl, rfl⟩
  · have HM := Lib.hid (mB_out s i h)
    go_enter Try.func99, Try.ntmps99
    go_wp2
    go_ret
    rw [HM.out]
    exact ⟨rfl, rfl⟩

theorem more1 (s : ByteArray) (hs : s.size ≤ 140737488355328) (b : Bool) (h : Rc1.mB s.data.toList 1 = b) (w : World) : Calls Try.prog 99 #[.string s, .int .i64 1] w fun e w' => e = .returned (.bool b) ∧ w = w' := by
  have := more_any s 1 hs (by omega) w
  rwa [h] at this
theorem more2 (s : ByteArray) (hs : s.size ≤ 140737488355328) (b : Bool) (h : Rc1.mB s.data.toList 2 = b) (w : World) : Calls Try.prog 99 #[.string s, .int .i64 2] w fun e w' => e = .returned (.bool b) ∧ w = w' := by
  have := more_any s 2 hs (by omega) w
  rwa [h] at this
theorem more3 (s : ByteArray) (hs : s.size ≤ 140737488355328) (b : Bool) (h : Rc1.mB s.data.toList 3 = b) (w : World) : Calls Try.prog 99 #[.string s, .int .i64 3] w fun e w' => e = .returned (.bool b) ∧ w = w' := by
  have := more_any s 3 hs (by omega) w
  rwa [h] at this

theorem ret2_of {a b c d : Int} (h : (a, b) = (c, d)) : Ending.returned (.tuple #[.int .i64 c, .int .i64 d]) = .returned (.tuple #[.int .i64 a, .int .i64 b]) := by
  simp only [Prod.mk.injEq] at h; rw [h.1, h.2]

set_option maxHeartbeats 4000000 in
set_option maxRecDepth 100000 in
theorem Rune_any (s : ByteArray) (h0 : 0 < s.size) (hs : s.size ≤ 140737488355328) (w : World) :
    Calls Try.prog 89 #[.string s] w fun e w' => e = .returned (.tuple #[.int .i64 (Rc1.rr s.data.toList).1, .int .i64 (Rc1.rr s.data.toList).2]) ∧ Below w.heap.size w w' := by
  have hb0 : (s[0]'h0).toNat < 256 := UInt8.toNat_lt _
  have G0 := Lib.hid (get_bt s 0 h0)
  have hB := Below.refl w.heap.size w
  by_cases l1 : (s[0]'h0).toNat < 128
  · have HR := Lib.hid (Rc1.rr1 (l := s.data.toList) (by rw [G0.out]; exact l1))
    go_enter Try.func89, Try.ntmps89
    go_wp2
    go_ret2
    refine ⟨ret2_of (by rw [HR.out, G0.out]), hB⟩
  · have HM1 := Lib.hid (fun b h => more1 s hs b h)
    have HM2 := Lib.hid (fun b h => more2 s hs b h)
    have HM3 := Lib.hid (fun b h => more3 s hs b h)
    by_cases l2 : (s[0]'h0).toNat < 194
    · have HR := Lib.hid (Rc1.rr0 (l := s.data.toList) (by rw [G0.out]; omega) (fun h => by rw [G0.out] at h; first | omega | exact m1) (fun h => by rw [G0.out] at h; first | omega | exact .inl m1 | exact .inr (.inl m2) | (rw [G0.out, get_bt s 1 z1, get_bt s 2 z2]; omega)) (fun h => by rw [G0.out] at h; first | omega | exact .inl m1 | exact .inr (.inl m2) | exact .inr (.inr (.inl m3)) | (rw [G0.out, get_bt s 1 z1, get_bt s 2 z2, get_bt s 3 z3]; omega)))
      go_enter Try.func89, Try.ntmps89
      go_wp2
      go_ret2
      exact ⟨ret2_of HR.out, hB⟩
    · by_cases l3 : (s[0]'h0).toNat ≤ 223
      · cases m1 : Rc1.mB s.data.toList 1 with
        | false =>
          have HR := Lib.hid (Rc1.rr0 (l := s.data.toList) (by rw [G0.out]; omega) (fun h => by rw [G0.out] at h; first | omega | exact m1) (fun h => by rw [G0.out] at h; first | omega | exact .inl m1 | exact .inr (.inl m2) | (rw [G0.out, get_bt s 1 z1, get_bt s 2 z2]; omega)) (fun h => by rw [G0.out] at h; first | omega | exact .inl m1 | exact .inr (.inl m2) | exact .inr (.inr (.inl m3)) | (rw [G0.out, get_bt s 1 z1, get_bt s 2 z2, get_bt s 3 z3]; omega)))
          have M1 := Lib.hid (HM1.out _ m1)
          clear m1 HM1 HM2 HM3
          go_enter Try.func89, Try.ntmps89
          go_wp2_with (go_at_call 99; ((with_reducible refine (M1.out _).mono ?_)); rintro e w1 ⟨rfl, rfl⟩)
          go_ret2
          exact ⟨ret2_of HR.out, hB⟩
        | true =>
          have q1 := Rc1.mB_true m1
          rw [len_data] at q1
          have z1 : 1 < s.size := q1.1
          have y1 : (1 : Int) < s.size := by omega
          have b1 : (s[1]'z1).toNat < 256 := UInt8.toNat_lt _
          have k1 := q1.2
          rw [get_bt s 1 z1] at k1
          have HR := Lib.hid (Rc1.rr2 (l := s.data.toList) (by rw [G0.out]; omega) m1)
          rw [G0.out, get_bt s 1 z1] at HR
          have M1 := Lib.hid (HM1.out _ m1)
          clear m1 q1 HM1 HM2 HM3
          go_enter Try.func89, Try.ntmps89
          go_wp2_with (go_at_call 99; ((with_reducible refine (M1.out _).mono ?_)); rintro e w1 ⟨rfl, rfl⟩)
          go_ret2
          exact ⟨ret2_of HR.out, hB⟩
      · by_cases l4 : (s[0]'h0).toNat ≤ 239
        · cases m1 : Rc1.mB s.data.toList 1 with
          | false =>
            have HR := Lib.hid (Rc1.rr0 (l := s.data.toList) (by rw [G0.out]; omega) (fun h => by rw [G0.out] at h; first | omega | exact m1) (fun h => by rw [G0.out] at h; first | omega | exact .inl m1 | exact .inr (.inl m2) | (rw [G0.out, get_bt s 1 z1, get_bt s 2 z2]; omega)) (fun h => by rw [G0.out] at h; first | omega | exact .inl m1 | exact .inr (.inl m2) | exact .inr (.inr (.inl m3)) | (rw [G0.out, get_bt s 1 z1, get_bt s 2 z2, get_bt s 3 z3]; omega)))
            have M1 := Lib.hid (HM1.out _ m1)
            clear m1 HM1 HM2 HM3
            go_enter Try.func89, Try.ntmps89
            go_wp2_with (first | (go_at_call 99; ((with_reducible refine (M1.out _).mono ?_)); rintro e w1 ⟨rfl, rfl⟩))
            go_ret2
            exact ⟨ret2_of HR.out, hB⟩
          | true =>
            cases m2 : Rc1.mB s.data.toList 2 with
              | false =>
                have HR := Lib.hid (Rc1.rr0 (l := s.data.toList) (by rw [G0.out]; omega) (fun h => by rw [G0.out] at h; first | omega | exact m1) (fun h => by rw [G0.out] at h; first | omega | exact .inl m1 | exact .inr (.inl m2) | (rw [G0.out, get_bt s 1 z1, get_bt s 2 z2]; omega)) (fun h => by rw [G0.out] at h; first | omega | exact .inl m1 | exact .inr (.inl m2) | exact .inr (.inr (.inl m3)) | (rw [G0.out, get_bt s 1 z1, get_bt s 2 z2, get_bt s 3 z3]; omega)))
                have M1 := Lib.hid (HM1.out _ m1)
                have M2 := Lib.hid (HM2.out _ m2)
                clear m1 m2 HM1 HM2 HM3
                go_enter Try.func89, Try.ntmps89
                go_wp2_with (first | (go_at_call 99; ((with_reducible refine (M1.out _).mono ?_)); rintro e w1 ⟨rfl, rfl⟩) | (go_at_call 99; ((with_reducible refine (M2.out _).mono ?_)); rintro e w1 ⟨rfl, rfl⟩))
                go_ret2
                exact ⟨ret2_of HR.out, hB⟩
              | true =>
                have q1 := Rc1.mB_true m1
                rw [len_data] at q1
                have z1 : 1 < s.size := q1.1
                have y1 : (1 : Int) < s.size := by omega
                have b1 : (s[1]'z1).toNat < 256 := UInt8.toNat_lt _
                have k1 := q1.2
                rw [get_bt s 1 z1] at k1
                have q2 := Rc1.mB_true m2
                rw [len_data] at q2
                have z2 : 2 < s.size := q2.1
                have y2 : (2 : Int) < s.size := by omega
                have b2 : (s[2]'z2).toNat < 256 := UInt8.toNat_lt _
                have k2 := q2.2
                rw [get_bt s 2 z2] at k2
                by_cases g1 : (2048 : Int) ≤ ((((s[0]'h0).toNat : Int) - 224) * 4096 + (((s[1]'z1).toNat : Int) - 128) * 64 + ((s[2]'z2).toNat : Int) - 128 : Int)
                · by_cases g2 : (55296 : Int) ≤ ((((s[0]'h0).toNat : Int) - 224) * 4096 + (((s[1]'z1).toNat : Int) - 128) * 64 + ((s[2]'z2).toNat : Int) - 128 : Int)
                  · by_cases g3 : ((((s[0]'h0).toNat : Int) - 224) * 4096 + (((s[1]'z1).toNat : Int) - 128) * 64 + ((s[2]'z2).toNat : Int) - 128 : Int) ≤ (57343 : Int)
                    · have HR := Lib.hid (Rc1.rr0 (l := s.data.toList) (by rw [G0.out]; omega) (fun h => by rw [G0.out] at h; first | omega | exact m1) (fun h => by rw [G0.out] at h; first | omega | exact .inl m1 | exact .inr (.inl m2) | (rw [G0.out, get_bt s 1 z1, get_bt s 2 z2]; omega)) (fun h => by rw [G0.out] at h; first | omega | exact .inl m1 | exact .inr (.inl m2) | exact .inr (.inr (.inl m3)) | (rw [G0.out, get_bt s 1 z1, get_bt s 2 z2, get_bt s 3 z3]; omega)))
                      obtain ⟨n, hn⟩ : ∃ n : Int, n = ((Rc1.bt s.data.toList 0 : Int) - 224) * 4096 + ((Rc1.bt s.data.toList 1 : Int) - 128) * 64 + (Rc1.bt s.data.toList 2 : Int) - 128 := ⟨_, rfl⟩
                      rw [G0.out, get_bt s 1 z1, get_bt s 2 z2] at hn
                      have g3' : decide (n ≤ 57343) = true := decide_eq_true (by omega)
                      have g3n : (!decide (n ≤ 57343)) = false := by rw [g3']; rfl
                      rw [hn] at g3' g3n
                      clear hn
                      have M1 := Lib.hid (HM1.out _ m1)
                      have M2 := Lib.hid (HM2.out _ m2)
                      clear m1 q1 m2 q2 HM1 HM2 HM3
                      go_enter Try.func89, Try.ntmps89
                      go_wp2_with (first | (go_at_call 99; ((with_reducible refine (M1.out _).mono ?_)); rintro e w1 ⟨rfl, rfl⟩) | (go_at_call 99; ((with_reducible refine (M2.out _).mono ?_)); rintro e w1 ⟨rfl, rfl⟩))
                      go_region
                      go_wp2
                      go_ret2
                      exact ⟨ret2_of HR.out, hB.drew⟩
                    · have HR := Lib.hid (Rc1.rr3 (l := s.data.toList) (by rw [G0.out]; omega) m1 m2 _ rfl (by rw [G0.out, get_bt s 1 z1, get_bt s 2 z2]; omega))
                      rw [G0.out, get_bt s 1 z1, get_bt s 2 z2] at HR
                      obtain ⟨n, hn⟩ : ∃ n : Int, n = ((Rc1.bt s.data.toList 0 : Int) - 224) * 4096 + ((Rc1.bt s.data.toList 1 : Int) - 128) * 64 + (Rc1.bt s.data.toList 2 : Int) - 128 := ⟨_, rfl⟩
                      rw [G0.out, get_bt s 1 z1, get_bt s 2 z2] at hn
                      have g3' : decide (n ≤ 57343) = false := decide_eq_false (by omega)
                      have g3n : (!decide (n ≤ 57343)) = true := by rw [g3']; rfl
                      rw [hn] at g3' g3n
                      clear hn
                      have M1 := Lib.hid (HM1.out _ m1)
                      have M2 := Lib.hid (HM2.out _ m2)
                      clear m1 q1 m2 q2 HM1 HM2 HM3
                      go_enter Try.func89, Try.ntmps89
                      go_wp2_with (first | (go_at_call 99; ((with_reducible refine (M1.out _).mono ?_)); rintro e w1 ⟨rfl, rfl⟩) | (go_at_call 99; ((with_reducible refine (M2.out _).mono ?_)); rintro e w1 ⟨rfl, rfl⟩))
                      go_region
                      go_wp2
                      go_ret2
                      exact ⟨ret2_of HR.out, hB.drew⟩
                  · have HR := Lib.hid (Rc1.rr3 (l := s.data.toList) (by rw [G0.out]; omega) m1 m2 _ rfl (by rw [G0.out, get_bt s 1 z1, get_bt s 2 z2]; omega))
                    rw [G0.out, get_bt s 1 z1, get_bt s 2 z2] at HR
                    have M1 := Lib.hid (HM1.out _ m1)
                    have M2 := Lib.hid (HM2.out _ m2)
                    clear m1 q1 m2 q2 HM1 HM2 HM3
                    go_enter Try.func89, Try.ntmps89
                    go_wp2_with (first | (go_at_call 99; ((with_reducible refine (M1.out _).mono ?_)); rintro e w1 ⟨rfl, rfl⟩) | (go_at_call 99; ((with_reducible refine (M2.out _).mono ?_)); rintro e w1 ⟨rfl, rfl⟩))
                    go_region
                    go_wp2
                    go_ret2
                    exact ⟨ret2_of HR.out, hB.drew⟩
                · have HR := Lib.hid (Rc1.rr0 (l := s.data.toList) (by rw [G0.out]; omega) (fun h => by rw [G0.out] at h; first | omega | exact m1) (fun h => by rw [G0.out] at h; first | omega | exact .inl m1 | exact .inr (.inl m2) | (rw [G0.out, get_bt s 1 z1, get_bt s 2 z2]; omega)) (fun h => by rw [G0.out] at h; first | omega | exact .inl m1 | exact .inr (.inl m2) | exact .inr (.inr (.inl m3)) | (rw [G0.out, get_bt s 1 z1, get_bt s 2 z2, get_bt s 3 z3]; omega)))
                  have M1 := Lib.hid (HM1.out _ m1)
                  have M2 := Lib.hid (HM2.out _ m2)
                  clear m1 q1 m2 q2 HM1 HM2 HM3
                  go_enter Try.func89, Try.ntmps89
                  go_wp2_with (first | (go_at_call 99; ((with_reducible refine (M1.out _).mono ?_)); rintro e w1 ⟨rfl, rfl⟩) | (go_at_call 99; ((with_reducible refine (M2.out _).mono ?_)); rintro e w1 ⟨rfl, rfl⟩))
                  go_region
                  go_wp2
                  go_ret2
                  exact ⟨ret2_of HR.out, hB.drew⟩
        · by_cases l5 : (s[0]'h0).toNat ≤ 244
          · cases m1 : Rc1.mB s.data.toList 1 with
            | false =>
              have HR := Lib.hid (Rc1.rr0 (l := s.data.toList) (by rw [G0.out]; omega) (fun h => by rw [G0.out] at h; first | omega | exact m1) (fun h => by rw [G0.out] at h; first | omega | exact .inl m1 | exact .inr (.inl m2) | (rw [G0.out, get_bt s 1 z1, get_bt s 2 z2]; omega)) (fun h => by rw [G0.out] at h; first | omega | exact .inl m1 | exact .inr (.inl m2) | exact .inr (.inr (.inl m3)) | (rw [G0.out, get_bt s 1 z1, get_bt s 2 z2, get_bt s 3 z3]; omega)))
              have M1 := Lib.hid (HM1.out _ m1)
              clear m1 HM1 HM2 HM3
              go_enter Try.func89, Try.ntmps89
              go_wp2_with (first | (go_at_call 99; ((with_reducible refine (M1.out _).mono ?_)); rintro e w1 ⟨rfl, rfl⟩))
              go_ret2
              exact ⟨ret2_of HR.out, hB⟩
            | true =>
              cases m2 : Rc1.mB s.data.toList 2 with
                | false =>
                  have HR := Lib.hid (Rc1.rr0 (l := s.data.toList) (by rw [G0.out]; omega) (fun h => by rw [G0.out] at h; first | omega | exact m1) (fun h => by rw [G0.out] at h; first | omega | exact .inl m1 | exact .inr (.inl m2) | (rw [G0.out, get_bt s 1 z1, get_bt s 2 z2]; omega)) (fun h => by rw [G0.out] at h; first | omega | exact .inl m1 | exact .inr (.inl m2) | exact .inr (.inr (.inl m3)) | (rw [G0.out, get_bt s 1 z1, get_bt s 2 z2, get_bt s 3 z3]; omega)))
                  have M1 := Lib.hid (HM1.out _ m1)
                  have M2 := Lib.hid (HM2.out _ m2)
                  clear m1 m2 HM1 HM2 HM3
                  go_enter Try.func89, Try.ntmps89
                  go_wp2_with (first | (go_at_call 99; ((with_reducible refine (M1.out _).mono ?_)); rintro e w1 ⟨rfl, rfl⟩) | (go_at_call 99; ((with_reducible refine (M2.out _).mono ?_)); rintro e w1 ⟨rfl, rfl⟩))
                  go_ret2
                  exact ⟨ret2_of HR.out, hB⟩
                | true =>
                  cases m3 : Rc1.mB s.data.toList 3 with
                    | false =>
                      have HR := Lib.hid (Rc1.rr0 (l := s.data.toList) (by rw [G0.out]; omega) (fun h => by rw [G0.out] at h; first | omega | exact m1) (fun h => by rw [G0.out] at h; first | omega | exact .inl m1 | exact .inr (.inl m2) | (rw [G0.out, get_bt s 1 z1, get_bt s 2 z2]; omega)) (fun h => by rw [G0.out] at h; first | omega | exact .inl m1 | exact .inr (.inl m2) | exact .inr (.inr (.inl m3)) | (rw [G0.out, get_bt s 1 z1, get_bt s 2 z2, get_bt s 3 z3]; omega)))
                      have M1 := Lib.hid (HM1.out _ m1)
                      have M2 := Lib.hid (HM2.out _ m2)
                      have M3 := Lib.hid (HM3.out _ m3)
                      clear m1 m2 m3 HM1 HM2 HM3
                      go_enter Try.func89, Try.ntmps89
                      go_wp2_with (first | (go_at_call 99; ((with_reducible refine (M1.out _).mono ?_)); rintro e w1 ⟨rfl, rfl⟩) | (go_at_call 99; ((with_reducible refine (M2.out _).mono ?_)); rintro e w1 ⟨rfl, rfl⟩) | (go_at_call 99; ((with_reducible refine (M3.out _).mono ?_)); rintro e w1 ⟨rfl, rfl⟩))
                      go_ret2
                      exact ⟨ret2_of HR.out, hB⟩
                    | true =>
                      have q1 := Rc1.mB_true m1
                      rw [len_data] at q1
                      have z1 : 1 < s.size := q1.1
                      have y1 : (1 : Int) < s.size := by omega
                      have b1 : (s[1]'z1).toNat < 256 := UInt8.toNat_lt _
                      have k1 := q1.2
                      rw [get_bt s 1 z1] at k1
                      have q2 := Rc1.mB_true m2
                      rw [len_data] at q2
                      have z2 : 2 < s.size := q2.1
                      have y2 : (2 : Int) < s.size := by omega
                      have b2 : (s[2]'z2).toNat < 256 := UInt8.toNat_lt _
                      have k2 := q2.2
                      rw [get_bt s 2 z2] at k2
                      have q3 := Rc1.mB_true m3
                      rw [len_data] at q3
                      have z3 : 3 < s.size := q3.1
                      have y3 : (3 : Int) < s.size := by omega
                      have b3 : (s[3]'z3).toNat < 256 := UInt8.toNat_lt _
                      have k3 := q3.2
                      rw [get_bt s 3 z3] at k3
                      by_cases g1 : (65536 : Int) ≤ ((((s[0]'h0).toNat : Int) - 240) * 262144 + (((s[1]'z1).toNat : Int) - 128) * 4096 + (((s[2]'z2).toNat : Int) - 128) * 64 + ((s[3]'z3).toNat : Int) - 128 : Int)
                      · by_cases g2 : ((((s[0]'h0).toNat : Int) - 240) * 262144 + (((s[1]'z1).toNat : Int) - 128) * 4096 + (((s[2]'z2).toNat : Int) - 128) * 64 + ((s[3]'z3).toNat : Int) - 128 : Int) ≤ (1114111 : Int)
                        · have HR := Lib.hid (Rc1.rr4 (l := s.data.toList) (by rw [G0.out]; omega) m1 m2 m3 _ rfl (by rw [G0.out, get_bt s 1 z1, get_bt s 2 z2, get_bt s 3 z3]; omega))
                          rw [G0.out, get_bt s 1 z1, get_bt s 2 z2, get_bt s 3 z3] at HR
                          have M1 := Lib.hid (HM1.out _ m1)
                          have M2 := Lib.hid (HM2.out _ m2)
                          have M3 := Lib.hid (HM3.out _ m3)
                          clear m1 q1 m2 q2 m3 q3 HM1 HM2 HM3
                          go_enter Try.func89, Try.ntmps89
                          go_wp2_with (first | (go_at_call 99; ((with_reducible refine (M1.out _).mono ?_)); rintro e w1 ⟨rfl, rfl⟩) | (go_at_call 99; ((with_reducible refine (M2.out _).mono ?_)); rintro e w1 ⟨rfl, rfl⟩) | (go_at_call 99; ((with_reducible refine (M3.out _).mono ?_)); rintro e w1 ⟨rfl, rfl⟩))
                          go_region
                          go_wp2
                          go_ret2
                          exact ⟨ret2_of HR.out, hB.drew⟩
                        · have HR := Lib.hid (Rc1.rr0 (l := s.data.toList) (by rw [G0.out]; omega) (fun h => by rw [G0.out] at h; first | omega | exact m1) (fun h => by rw [G0.out] at h; first | omega | exact .inl m1 | exact .inr (.inl m2) | (rw [G0.out, get_bt s 1 z1, get_bt s 2 z2]; omega)) (fun h => by rw [G0.out] at h; first | omega | exact .inl m1 | exact .inr (.inl m2) | exact .inr (.inr (.inl m3)) | (rw [G0.out, get_bt s 1 z1, get_bt s 2 z2, get_bt s 3 z3]; omega)))
                          have M1 := Lib.hid (HM1.out _ m1)
                          have M2 := Lib.hid (HM2.out _ m2)
                          have M3 := Lib.hid (HM3.out _ m3)
                          clear m1 q1 m2 q2 m3 q3 HM1 HM2 HM3
                          go_enter Try.func89, Try.ntmps89
                          go_wp2_with (first | (go_at_call 99; ((with_reducible refine (M1.out _).mono ?_)); rintro e w1 ⟨rfl, rfl⟩) | (go_at_call 99; ((with_reducible refine (M2.out _).mono ?_)); rintro e w1 ⟨rfl, rfl⟩) | (go_at_call 99; ((with_reducible refine (M3.out _).mono ?_)); rintro e w1 ⟨rfl, rfl⟩))
                          go_region
                          go_wp2
                          go_ret2
                          exact ⟨ret2_of HR.out, hB.drew⟩
                      · have HR := Lib.hid (Rc1.rr0 (l := s.data.toList) (by rw [G0.out]; omega) (fun h => by rw [G0.out] at h; first | omega | exact m1) (fun h => by rw [G0.out] at h; first | omega | exact .inl m1 | exact .inr (.inl m2) | (rw [G0.out, get_bt s 1 z1, get_bt s 2 z2]; omega)) (fun h => by rw [G0.out] at h; first | omega | exact .inl m1 | exact .inr (.inl m2) | exact .inr (.inr (.inl m3)) | (rw [G0.out, get_bt s 1 z1, get_bt s 2 z2, get_bt s 3 z3]; omega)))
                        have M1 := Lib.hid (HM1.out _ m1)
                        have M2 := Lib.hid (HM2.out _ m2)
                        have M3 := Lib.hid (HM3.out _ m3)
                        clear m1 q1 m2 q2 m3 q3 HM1 HM2 HM3
                        go_enter Try.func89, Try.ntmps89
                        go_wp2_with (first | (go_at_call 99; ((with_reducible refine (M1.out _).mono ?_)); rintro e w1 ⟨rfl, rfl⟩) | (go_at_call 99; ((with_reducible refine (M2.out _).mono ?_)); rintro e w1 ⟨rfl, rfl⟩) | (go_at_call 99; ((with_reducible refine (M3.out _).mono ?_)); rintro e w1 ⟨rfl, rfl⟩))
                        go_region
                        go_wp2
                        go_ret2
                        exact ⟨ret2_of HR.out, hB.drew⟩
          · have HR := Lib.hid (Rc1.rr0 (l := s.data.toList) (by rw [G0.out]; omega) (fun h => by rw [G0.out] at h; first | omega | exact m1) (fun h => by rw [G0.out] at h; first | omega | exact .inl m1 | exact .inr (.inl m2) | (rw [G0.out, get_bt s 1 z1, get_bt s 2 z2]; omega)) (fun h => by rw [G0.out] at h; first | omega | exact .inl m1 | exact .inr (.inl m2) | exact .inr (.inr (.inl m3)) | (rw [G0.out, get_bt s 1 z1, get_bt s 2 z2, get_bt s 3 z3]; omega)))
            go_enter Try.func89, Try.ntmps89
            go_wp2
            go_ret2
            exact ⟨ret2_of HR.out, hB⟩

end Go.Proofs.Yteellffkjjllgaa

namespace Go.Proofs.Yteellffkjjllgaa
open Go.RowKit

/-- How long a string is, for a measure. -/
def szOf : Value → Nat
  | .string s => s.size
  | _ => 0

theorem size_mk (l : List UInt8) : (⟨l.toArray⟩ : ByteArray).size = l.length := by simp [ByteArray.size]

theorem Rune_rel (t : ByteArray) (h0 : 0 < t.size) (hs : t.size ≤ 140737488355328) (w : World) : ∀ w1, Below w.heap.size w w1 → Calls Try.prog 89 #[.string t] w1 fun e w' => e = .returned (.tuple #[.int .i64 (Rc1.rr t.data.toList).1, .int .i64 (Rc1.rr t.data.toList).2]) ∧ Below w.heap.size w w' :=
  fun w1 hb => (Rune_any t h0 hs w1).mono fun _ _ ⟨he, hw⟩ => ⟨he, below_trans hb hw⟩

theorem rr_bad {l : List UInt8} (h : Rc1.wr l = true) : Rc1.rr l = (-1, 1) := by
  have := Rc1.wr_high l h
  simp [Rc1.rr, h, this.2.1]
theorem rr_good {l : List UInt8} (h : Rc1.wr l = false) : Rc1.rr l = (((Rc1.dec l).1 : Int), ((Rc1.dec l).2 : Int)) := by
  simp [Rc1.rr, h]

set_option maxHeartbeats 1000000 in
theorem rValid_any (s : ByteArray) (hs : s.size ≤ 140737488355328) (w : World) :
    Calls Try.prog 77 #[.string s] w fun e w' => e = .returned (.bool (Rc1.valid s.data.toList)) ∧ Below w.heap.size w w' := by
  have hB := Below.refl w.heap.size w
  go_enter Try.func77, Try.ntmps77
  go_wp2
  go_loopw [0, 3, 4] (fun left _ _ wr => ∃ (t : ByteArray) (pos m : Nat), left = .string t ∧ Hid (t.data.toList = s.data.toList.drop pos) ∧ Rc1.At s.data.toList pos m ∧ Hid (((Rc1.cut s.data.toList).take m).all (fun c => !Rc1.wr c) = true) ∧ Below w.heap.size w wr) (fun left _ _ _ => szOf left)
  case atStart => exact ⟨s, 0, 0, rfl, rfl, Rc1.At.zero _, rfl, hB⟩
  case round =>
    obtain ⟨t, pos, m, rfl, ht, hA, hal, hbr⟩ := hrel
    have hps := hA.1
    rw [len_data] at hps
    have htz : t.size = s.size - pos := by rw [← len_data, ht.out, drop_size]
    have HTZ := Lib.hid htz
    have htl : t.size ≤ s.size := by omega
    have HA := Lib.hid hA
    have hie := isEmpty_of t
    clear hA htz hB
    by_cases hp : pos < s.size
    · have hne : t.data.toList ≠ [] := by rw [ht.out]; exact drop_ne hp
      have h0 : 0 < t.size := by have := HTZ.out; omega
      rw [decide_eq_false (by omega)] at hie
      have hdf := Rc1.dec_facts _ hne
      have hR := Rune_rel t h0 (by omega) w
      have hd1 := hdf.1
      have hd3 := hdf.2.2.1
      rw [len_data] at hd3
      clear hdf
      cases hw : Rc1.wr t.data.toList with
      | true =>
        rw [rr_bad hw] at hR
        have HR := Lib.hid hR
        have HW := Lib.hid hw
        clear hR hw hne
        go_wp2_with (go_at_call 89; ((with_reducible refine (HR.out _ (by assumption)).mono ?_)); rintro e w1 ⟨rfl, hbw⟩)
        go_ret
        refine ⟨?_, hbw⟩
        unfold Rc1.valid
        rw [HA.out.bad (by rw [len_data]; exact hp) _ Rc1.nwr_take (by rw [← ht.out, HW.out]; rfl)]
        rfl
      | false =>
        rw [rr_good hw] at hR
        have HR := Lib.hid hR
        have HW := Lib.hid hw
        clear hR hw hne
        go_wp2_with (go_at_call 89; ((with_reducible refine (HR.out _ (by assumption)).mono ?_)); rintro e w1 ⟨rfl, hbw⟩)
        go_roundw
        case rel =>
          refine ⟨_, pos + (Rc1.dec (s.data.toList.drop pos)).2, m + 1, rfl, ?_, HA.out.step (by rw [len_data]; exact hp), ?_, hbw⟩
          · show _ = _
            rw [extract_list, ht.out, List.drop_drop]
          · show _ = true
            rw [HA.out.all (by rw [len_data]; exact hp) _ Rc1.nwr_take, hal.out, ← ht.out, HW.out]; rfl
        case measure => simp [szOf]; omega
    · rw [decide_eq_true (by have := HTZ.out; omega)] at hie
      go_wp2
      go_ret
      refine ⟨?_, hbr⟩
      have := HA.out.over (by rw [len_data]; exact hp)
      have h2 := hal.out
      rw [this, List.take_length] at h2
      unfold Rc1.valid
      rw [h2]
      rfl

set_option maxHeartbeats 1000000 in
theorem rCount_any (s : ByteArray) (hs : s.size ≤ 140737488355328) (w : World) :
    Calls Try.prog 78 #[.string s] w fun e w' => e = .returned (.int .i64 (Rc1.count s.data.toList)) ∧ Below w.heap.size w w' := by
  have hB := Below.refl w.heap.size w
  go_enter Try.func78, Try.ntmps78
  go_wp2
  go_loopw [0, 3, 5] (fun left k _ wr => ∃ (t : ByteArray) (pos m : Nat), left = .string t ∧ k = .int .i64 m ∧ Hid (t.data.toList = s.data.toList.drop pos) ∧ Rc1.At s.data.toList pos m ∧ Below w.heap.size w wr) (fun left _ _ _ => szOf left)
  case atStart => exact ⟨s, 0, 0, rfl, rfl, rfl, Rc1.At.zero _, hB⟩
  case round =>
    obtain ⟨t, pos, m, rfl, rfl, ht, hA, hbr⟩ := hrel
    have hm := hA.2.2.1
    have hps := hA.1
    rw [len_data] at hps
    have htz : t.size = s.size - pos := by rw [← len_data, ht.out, drop_size]
    have HTZ := Lib.hid htz
    have htl : t.size ≤ s.size := by omega
    have HA := Lib.hid hA
    have hie := isEmpty_of t
    clear hA htz hB
    by_cases hp : pos < s.size
    · have hne : t.data.toList ≠ [] := by rw [ht.out]; exact drop_ne hp
      have h0 : 0 < t.size := by have := HTZ.out; omega
      rw [decide_eq_false (by omega)] at hie
      have hdf := Rc1.dec_facts _ hne
      have hR := Rune_rel t h0 (by omega) w
      have hd1 := hdf.1
      have hd3 := hdf.2.2.1
      rw [len_data] at hd3
      have hrr : (Rc1.rr t.data.toList).2 = ((Rc1.dec t.data.toList).2 : Int) := rfl
      rw [hrr] at hR
      have HR := Lib.hid hR
      clear hdf hR hne hrr
      go_wp2_with (go_at_call 89; ((with_reducible refine (HR.out _ (by assumption)).mono ?_)); rintro e w1 ⟨rfl, hbw⟩)
      go_roundw
      case rel =>
        refine ⟨_, pos + (Rc1.dec (s.data.toList.drop pos)).2, m + 1, rfl, by go_num, ?_, HA.out.step (by rw [len_data]; exact hp), hbw⟩
        show _ = _
        rw [extract_list, ht.out, List.drop_drop]
      case measure => simp [szOf]; omega
    · rw [decide_eq_true (by have := HTZ.out; omega)] at hie
      go_wp2
      go_ret
      refine ⟨?_, hbr⟩
      have := HA.out.over (by rw [len_data]; exact hp)
      rw [this]; rfl

theorem append_list (a b : ByteArray) : (a ++ b).data.toList = a.data.toList ++ b.data.toList := by simp [ByteArray.data_append]

theorem of_list {a : ByteArray} {l : List UInt8} (h : a.data.toList = l) : a = ⟨l.toArray⟩ := by
  apply ByteArray.ext; apply Array.ext'; rw [h]

def bt_ok (l : List UInt8) (k : Nat) : Bool := decide (32 ≤ Rc1.bt l k) && !decide (Rc1.bt l k = 127)

theorem okB_bad {l : List UInt8} {k : Nat} (h : k < l.length) (hb : bt_ok l k = false) : l.all Rc1.okB = false := by
  rw [List.all_eq_false]
  exact ⟨l[k], List.getElem_mem h, by rw [show Rc1.okB l[k] = bt_ok l k by unfold Rc1.okB bt_ok; rw [Rc1.bt_get l k h], hb]; simp⟩

theorem okB_step {l : List UInt8} {k : Nat} (h : k < l.length) (hb : bt_ok l k = true) (ha : (l.take k).all Rc1.okB = true) : (l.take (k + 1)).all Rc1.okB = true := by
  rw [List.take_succ_eq_append_getElem h, List.all_append, ha]
  simp only [List.all_cons, List.all_nil, Bool.and_true, Bool.true_and]
  rw [show Rc1.okB l[k] = bt_ok l k by unfold Rc1.okB bt_ok; rw [Rc1.bt_get l k h], hb]

set_option maxHeartbeats 1000000 in
theorem rRight_any (s : ByteArray) (hs : s.size ≤ 140737488355328) (w : World) :
    Calls Try.prog 58 #[.string s] w fun e w' => e = .returned (.bool (Rc1.right s.data.toList)) ∧ Below w.heap.size w w' := by
  have hB := Below.refl w.heap.size w
  have HRE := Lib.hid (Rc1.right_eq s.data.toList)
  have hV : ∀ w1, Below w.heap.size w w1 → Calls Try.prog 77 #[.string s] w1 fun e w' => e = .returned (.bool (Rc1.valid s.data.toList)) ∧ Below w.heap.size w w' := fun w1 hb => (rValid_any s hs w1).mono fun _ _ ⟨he, hw⟩ => ⟨he, below_trans hb hw⟩
  have hC : ∀ w1, Below w.heap.size w w1 → Calls Try.prog 78 #[.string s] w1 fun e w' => e = .returned (.int .i64 (Rc1.count s.data.toList)) ∧ Below w.heap.size w w' := fun w1 hb => (rCount_any s hs w1).mono fun _ _ ⟨he, hw⟩ => ⟨he, below_trans hb hw⟩
  have hcl : Rc1.count s.data.toList ≤ s.size := by have := Rc1.cut_len_le s.data.toList; rw [len_data] at this; exact this
  have hie := isEmpty_of s
  cases hv : Rc1.valid s.data.toList with
  | false =>
    rw [hv] at hV
    have HV := Lib.hid hV
    have HVV := Lib.hid hv
    clear hV hC hv hie hcl
    go_enter Try.func58, Try.ntmps58
    go_wp2_with (go_at_call 77; ((with_reducible refine (HV.out _ (by assumption)).mono ?_)); rintro e w1 ⟨rfl, hbw⟩)
    go_ret
    refine ⟨?_, hbw⟩
    rw [HRE.out, HVV.out]; simp
  | true =>
    rw [hv] at hV
    have HV := Lib.hid hV
    have HVV := Lib.hid hv
    clear hV hv
    by_cases h0 : s.size = 0
    · rw [decide_eq_true h0] at hie
      have H0 := Lib.hid (nil_of s h0)
      clear hC h0 hcl
      go_enter Try.func58, Try.ntmps58
      go_wp2_with (go_at_call 77; ((with_reducible refine (HV.out _ (by assumption)).mono ?_)); rintro e w1 ⟨rfl, hbw⟩)
      go_ret
      refine ⟨?_, hbw⟩
      rw [H0.out]; rfl
    · rw [decide_eq_false h0] at hie
      have hz : 0 < s.size := by omega
      have hz' : (0 : Int) < s.size := by omega
      have hz1 : s.size - 1 < s.size := by omega
      have hc1 : 1 ≤ Rc1.count s.data.toList := Rc1.count_pos _ (by intro e; have := congrArg List.length e; rw [len_data] at this; exact h0 this)
      have B0 := Lib.hid (get_bt s 0 hz)
      have B1 := Lib.hid (get_bt s (s.size - 1) hz1)
      generalize hcc : Rc1.count s.data.toList = c at hC hcl hc1
      have HCC := Lib.hid hcc
      have HC := Lib.hid hC
      clear hC hcc
      by_cases h24 : c ≤ 24
      · have h24' : decide ((24 : Int) < c) = false := decide_eq_false (by omega)
        cases e0 : (((s[0]'hz).toNat : Int) == 32) with
        | true =>
          go_enter Try.func58, Try.ntmps58
          go_wp2_with (first | (go_at_call 77; ((with_reducible refine (HV.out _ (by assumption)).mono ?_)); rintro e w1 ⟨rfl, hbw⟩) | (go_at_call 78; ((with_reducible refine (HC.out _ (by assumption)).mono ?_)); rintro e w1 ⟨rfl, hbw⟩))
          go_ret
          refine ⟨?_, hbw⟩
          rw [HRE.out, B0.out, decide_eq_false (show ¬ (s[0]'hz).toNat ≠ 32 by rw [beq_iff_eq] at e0; omega)]; simp
        | false =>
          cases e1 : (((s[s.size - 1]'hz1).toNat : Int) == 32) with
          | true =>
            go_enter Try.func58, Try.ntmps58
            go_wp2_with (first | (go_at_call 77; ((with_reducible refine (HV.out _ (by assumption)).mono ?_)); rintro e w1 ⟨rfl, hbw⟩) | (go_at_call 78; ((with_reducible refine (HC.out _ (by assumption)).mono ?_)); rintro e w1 ⟨rfl, hbw⟩))
            go_ret
            refine ⟨?_, hbw⟩
            rw [HRE.out, len_data, B1.out, decide_eq_false (show ¬ (s[s.size - 1]'hz1).toNat ≠ 32 by rw [beq_iff_eq] at e1; omega)]; simp
          | false =>
            have HF := Lib.hid (show Rc1.right s.data.toList = s.data.toList.all Rc1.okB by
              rw [HRE.out, len_data, B1.out, B0.out, HVV.out, HCC.out, decide_eq_true (show 1 ≤ c ∧ c ≤ 24 by omega), decide_eq_true (show (s[0]'hz).toNat ≠ 32 by rw [beq_eq_false_iff_ne] at e0; omega), decide_eq_true (show (s[s.size - 1]'hz1).toNat ≠ 32 by rw [beq_eq_false_iff_ne] at e1; omega)]; simp)
            go_enter Try.func58, Try.ntmps58
            go_wp2_with (first | (go_at_call 77; ((with_reducible refine (HV.out _ (by assumption)).mono ?_)); rintro e w1 ⟨rfl, hbw⟩) | (go_at_call 78; ((with_reducible refine (HC.out _ (by assumption)).mono ?_)); rintro e w1 ⟨rfl, hbw⟩))
            clear e0 e1
            go_loop [4] (fun i => ∃ k : Nat, k ≤ s.size ∧ i = .int .i64 k ∧ Hid ((s.data.toList.take k).all Rc1.okB = true)) (fun i => s.size - (intOf i).toNat)
            case atStart => exact ⟨0, Nat.zero_le _, rfl, rfl⟩
            case round =>
              obtain ⟨k, hk, rfl, hal⟩ := hrel
              by_cases hlt : k < s.size
              · have hlt' : (k : Int) < s.size := by omega
                have GB := Lib.hid (get_bt s k hlt)
                have hll : k < s.data.toList.length := by rw [len_data]; exact hlt
                have HLL := Lib.hid hll
                clear hll
                by_cases c1 : (s[k]'hlt).toNat < 32
                · have c1' : decide (((s[k]'hlt).toNat : Int) < 32) = true := decide_eq_true (by omega)
                  go_wp2
                  go_ret
                  refine ⟨?_, hbw⟩
                  rw [HF.out, okB_bad HLL.out (by unfold bt_ok; rw [GB.out, decide_eq_false (by omega)]; rfl)]; rfl
                · have c1' : decide (((s[k]'hlt).toNat : Int) < 32) = false := decide_eq_false (by omega)
                  cases c2 : (((s[k]'hlt).toNat : Int) == 127) with
                  | true =>
                    go_wp2
                    go_ret
                    refine ⟨?_, hbw⟩
                    rw [HF.out, okB_bad HLL.out (by unfold bt_ok; rw [GB.out, decide_eq_true (show (s[k]'hlt).toNat = 127 by rw [beq_iff_eq] at c2; omega)]; simp)]; rfl
                  | false =>
                    go_wp2
                    go_round
                    case rel =>
                      refine ⟨k + 1, by omega, by go_num, ?_⟩
                      exact okB_step HLL.out (by unfold bt_ok; rw [GB.out, decide_eq_true (show 32 ≤ (s[k]'hlt).toNat by omega), decide_eq_false (show ¬ (s[k]'hlt).toNat = 127 by rw [beq_eq_false_iff_ne] at c2; omega)]; rfl) hal.out
                    case measure => simp [intOf]; omega
              · go_wp2
                go_ret
                refine ⟨?_, hbw⟩
                have h2 := hal.out
                rw [List.take_of_length_le (by rw [len_data]; omega)] at h2
                rw [HF.out, h2]; rfl
      · have h24' : decide ((24 : Int) < c) = true := decide_eq_true (by omega)
        have H24 := Lib.hid h24
        clear h24
        go_enter Try.func58, Try.ntmps58
        go_wp2_with (first | (go_at_call 77; ((with_reducible refine (HV.out _ (by assumption)).mono ?_)); rintro e w1 ⟨rfl, hbw⟩) | (go_at_call 78; ((with_reducible refine (HC.out _ (by assumption)).mono ?_)); rintro e w1 ⟨rfl, hbw⟩))
        go_ret
        refine ⟨?_, hbw⟩
        rw [right_long (by rw [HCC.out]; have := H24.out; omega)]
        rfl

end Go.Proofs.Yteellffkjjllgaa
