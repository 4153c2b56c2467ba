/-
  What the reference's value, Bytes, one and Unquote answer: a digit's worth, a rune's bytes, what a quoted word begins with, and what it stands for. Conditions: the word has at most 10000 bytes.
-/
import Derived.Test.YtghnjdbamenkgaaDoorLawB
import Derived.Test.YtghnjdbamenkgaaDoorRefQ
import Derived.Test.YtghnjdbamenkgaaDoorMathV
import Derived.Deep.RegionWith
namespace Go.Proofs.YtghnjdbamenkgaaDoor
open Go.RowKit

theorem ix16 (j : Nat) (h : j < 16) (W : World) : (Instr.index 9 (.string ⟨#[48, 49, 50, 51, 52, 53, 54, 55, 56, 57, 97, 98, 99, 100, 101, 102]⟩) (.int .i64 (j : Int))).run Tryd.prog W = .ok (.int .u8 ((Rc1.dg j).toNat : Int)) W := by
  obtain rfl | rfl | rfl | rfl | rfl | rfl | rfl | rfl | rfl | rfl | rfl | rfl | rfl | rfl | rfl | rfl : j = 0 ∨ j = 1 ∨ j = 2 ∨ j = 3 ∨ j = 4 ∨ j = 5 ∨ j = 6 ∨ j = 7 ∨ j = 8 ∨ j = 9 ∨ j = 10 ∨ j = 11 ∨ j = 12 ∨ j = 13 ∨ j = 14 ∨ j = 15 := by omega
  all_goals kernel_rfl
theorem ixe (j : Nat) (h : j < 16) : (⟨#[48, 49, 50, 51, 52, 53, 54, 55, 56, 57, 97, 98, 99, 100, 101, 102]⟩ : ByteArray)[j]'h = Rc1.dg j := by
  obtain rfl | rfl | rfl | rfl | rfl | rfl | rfl | rfl | rfl | rfl | rfl | rfl | rfl | rfl | rfl | rfl : j = 0 ∨ j = 1 ∨ j = 2 ∨ j = 3 ∨ j = 4 ∨ j = 5 ∨ j = 6 ∨ j = 7 ∨ j = 8 ∨ j = 9 ∨ j = 10 ∨ j = 11 ∨ j = 12 ∨ j = 13 ∨ j = 14 ∨ j = 15 := by omega
  all_goals rfl

set_option maxHeartbeats 1000000 in
theorem value_any (c : Nat) (_hc : c < 256) (w : World) :
    Calls Tryd.prog 38 #[.int .u8 (c : Int)] w fun e w' => e = .returned (.int .i64 (Rc1.vl c)) ∧ w = w' := by
  go_enter Tryd.func38, Tryd.ntmps38
  go_wp2
  go_loop [3] (fun i => ∃ k : Nat, k ≤ 16 ∧ i = .int .i64 k ∧ Hid (∀ j, j < k → (Rc1.dg j).toNat ≠ c)) (fun i => 16 - (intOf i).toNat)
  case atStart => exact ⟨0, Nat.zero_le _, rfl, fun j hj => by omega⟩
  case round =>
    obtain ⟨k, hk, rfl, hal⟩ := hrel
    by_cases hlt : k < 16
    · have hx := ix16 k hlt
      have hx2 := ixe k hlt
      have hd256 : (Rc1.dg k).toNat < 256 := UInt8.toNat_lt _
      by_cases he : (Rc1.dg k).toNat = c
      · have HV := Lib.hid (show Rc1.vl c = k by rw [← he]; exact Rc1.vl_dg k hlt)
        have e1 : (((Rc1.dg k).toNat : Int) == (c : Int)) = true := by rw [beq_iff_eq]; omega
        have e2 : ((Rc1.dg k).toNat == c) = true := by rw [beq_iff_eq]; exact he
        clear he
        go_wp2
        go_ret
        rw [HV.out]
        exact ⟨rfl, rfl⟩
      · have e1 : (((Rc1.dg k).toNat : Int) == (c : Int)) = false := by rw [beq_eq_false_iff_ne]; omega
        have e2 : ((Rc1.dg k).toNat == c) = false := by rw [beq_eq_false_iff_ne]; exact he
        have HE := Lib.hid he
        clear he
        go_wp2
        go_round
        case rel =>
          refine ⟨k + 1, by omega, by go_num, ?_⟩
          intro j hj
          by_cases e : j = k
          · rw [e]; exact HE.out
          · exact hal.out j (by omega)
        case measure => simp [intOf]; omega
    · have HV := Lib.hid (Rc1.vl_none c (fun j hj => hal.out j (by omega)))
      go_wp2
      go_ret
      rw [HV.out]
      exact ⟨rfl, rfl⟩

theorem own_new (w : World) (l : List UInt8) (vals : Array Value) (h : vals.toList = Lib.byteCells l) (hl : l.length ≤ 100) : (w.alloc (.cells vals 5)).ownsRowF w.heap.size 5 1 (.slice (some ⟨w.heap.size, 0, none⟩) l.length l.length) l.length (Lib.byteCells l) := by
  refine ⟨by rw [Lib.byteCells_length]; simp, .inr ⟨w.heap.size, l.length, vals, (0, 0), rfl, Nat.le_refl _, (MapKept.heap_alloc w _).1, by simp, Nat.le_refl _, by unfold maxLen; omega, ?_, ?_⟩⟩
  · have := congrArg List.length h
    rw [Array.length_toList, Lib.byteCells_length] at this; omega
  · rw [h]; exact List.take_of_length_le (by rw [Lib.byteCells_length]; omega)

def PostB (l : List UInt8) (w : World) (e : Ending) (w' : World) : Prop :=
  e = .returned (.slice (some ⟨w.heap.size, 0, none⟩) l.length l.length) ∧ w'.ownsRowF w.heap.size 5 1 (.slice (some ⟨w.heap.size, 0, none⟩) l.length l.length) l.length (Lib.byteCells l) ∧ Below w.heap.size w w'

theorem u8_of (n : Nat) (h : n < 256) : ((UInt8.ofNat n).toNat : Int) = n := by simp; omega

set_option maxHeartbeats 1000000 in
set_option maxRecDepth 100000 in
theorem Bytes_core (n : Nat) (a : Int) (ha : a = n) (h0 : 0 ≤ a) (hm : a ≤ 1114111) (w : World) : Calls Tryd.prog 39 #[.int .i64 a] w (PostB (Rc1.enc n) w) := by
  have hB := (Below.refl w.heap.size w)
  by_cases h1 : a < 128
  · have HE := Lib.hid (show Rc1.enc n = [UInt8.ofNat (n)] by unfold Rc1.enc; rw [if_pos (by omega)])
    have z0 : 0 ≤ a := h0
    have HA := Lib.hid ha
    clear ha
    go_enter Tryd.func39, Tryd.ntmps39
    go_wp2
    go_ret
    unfold PostB
    rw [HE.out]
    refine ⟨rfl, own_new w _ _ ?_ (by simp), hB.alloc (Nat.le_refl _) _⟩
    have ha := HA.out
    simp only [Lib.byteCells, List.map_cons, List.map_nil]
    rw [u8_of _ (show n < 256 by omega)]
    rw [ha]
    try simp
  · by_cases h2 : a < 2048
    · have HE := Lib.hid (show Rc1.enc n = [UInt8.ofNat (192 + n / 64), UInt8.ofNat (128 + n % 64)] by unfold Rc1.enc; rw [if_neg (by omega), if_pos (by omega)])
      have z1 : 128 ≤ a := by omega
      have HA := Lib.hid ha
      clear ha
      go_enter Tryd.func39, Tryd.ntmps39
      go_wp2
      go_ret
      unfold PostB
      rw [HE.out]
      refine ⟨rfl, own_new w _ _ ?_ (by simp), hB.alloc (Nat.le_refl _) _⟩
      have ha := HA.out
      simp only [Lib.byteCells, List.map_cons, List.map_nil]
      rw [u8_of _ (show 192 + n / 64 < 256 by omega), u8_of _ (show 128 + n % 64 < 256 by omega)]
      rw [ha]
      try simp
    · by_cases h3 : a < 65536
      · have HE := Lib.hid (show Rc1.enc n = [UInt8.ofNat (224 + n / 4096), UInt8.ofNat (128 + n / 64 % 64), UInt8.ofNat (128 + n % 64)] by unfold Rc1.enc; rw [if_neg (by omega), if_neg (by omega), if_pos (by omega)])
        have z2 : 2048 ≤ a := by omega
        have HA := Lib.hid ha
        clear ha
        go_enter Tryd.func39, Tryd.ntmps39
        go_wp2
        go_ret
        unfold PostB
        rw [HE.out]
        refine ⟨rfl, own_new w _ _ ?_ (by simp), hB.alloc (Nat.le_refl _) _⟩
        have ha := HA.out
        simp only [Lib.byteCells, List.map_cons, List.map_nil]
        rw [u8_of _ (show 224 + n / 4096 < 256 by omega), u8_of _ (show 128 + n / 64 % 64 < 256 by omega), u8_of _ (show 128 + n % 64 < 256 by omega)]
        rw [ha]
        try simp
      · have HE := Lib.hid (show Rc1.enc n = [UInt8.ofNat (240 + n / 262144), UInt8.ofNat (128 + n / 4096 % 64), UInt8.ofNat (128 + n / 64 % 64), UInt8.ofNat (128 + n % 64)] by unfold Rc1.enc; rw [if_neg (by omega), if_neg (by omega), if_neg (by omega)])
        have z3 : 65536 ≤ a := by omega
        have HA := Lib.hid ha
        clear ha
        go_enter Tryd.func39, Tryd.ntmps39
        go_wp2
        go_ret
        unfold PostB
        rw [HE.out]
        refine ⟨rfl, own_new w _ _ ?_ (by simp), hB.alloc (Nat.le_refl _) _⟩
        have ha := HA.out
        simp only [Lib.byteCells, List.map_cons, List.map_nil]
        rw [u8_of _ (show 240 + n / 262144 < 256 by omega), u8_of _ (show 128 + n / 4096 % 64 < 256 by omega), u8_of _ (show 128 + n / 64 % 64 < 256 by omega), u8_of _ (show 128 + n % 64 < 256 by omega)]
        rw [ha]
        try simp


theorem wrap3 (a b : Int) (h1 : 0 ≤ a) (h2 : a < 16) (h3 : 0 ≤ b) (h4 : b < 16) : IntKind.u8.wrap (IntKind.i64.wrap (IntKind.i64.wrap (16 * a) + b)) = 16 * a + b := by
  have e1 : IntKind.i64.wrap (16 * a) = 16 * a := by simp [IntKind.wrap, IntKind.signed, IntKind.bits]; omega
  have e2 : IntKind.i64.wrap (16 * a + b) = 16 * a + b := by simp [IntKind.wrap, IntKind.signed, IntKind.bits]; omega
  rw [e1, e2]
  simp [IntKind.wrap, IntKind.signed, IntKind.bits]; omega

theorem pow_step (a v : Int) (k : Nat) (h2 : 2 ≤ k) (h : a < 16 ^ (k - 2)) (hv : v < 16) : 16 * a + v < 16 ^ (k + 1 - 2) := by
  rw [show k + 1 - 2 = (k - 2) + 1 by omega, Int.pow_succ]
  omega
theorem pow_max (a : Int) (k : Nat) (hk : k ≤ 9) (h : a < 16 ^ (k - 2)) : a < 268435456 := by
  have h1 : (16 : Int) ^ (k - 2) ≤ 16 ^ 7 := by
    have : (16 : Nat) ^ (k - 2) ≤ 16 ^ 7 := Nat.pow_le_pow_right (by omega) (by omega)
    exact_mod_cast this
  have h2 : (16 : Int) ^ 7 = 268435456 := by decide
  omega

def PostO (l : List UInt8) (w : World) (e : Ending) (w' : World) : Prop :=
  ∃ (v : Value) (k : Nat) (p : List UInt8), e = .returned (.tuple #[v, .int .i64 k]) ∧ k ≤ l.length ∧ p.length ≤ 4 ∧ w'.ownsRowF w.heap.size 5 1 v p.length (Lib.byteCells p) ∧ (k ≠ 0 → ∃ g cap, v = .slice (some ⟨g, 0, none⟩) p.length cap) ∧ Rc1.MkO l p k ∧ Below w.heap.size w w'

theorem own_nil (w : World) : w.ownsRowF w.heap.size 5 1 (.slice none 0 0) ([] : List UInt8).length (Lib.byteCells []) := World.ownsRowF_of (World.ownsRow_nil w _ _ _)

theorem get0 (s : ByteArray) (k : Nat) (h : k < s.size) : s.data.toList[k]? = some (s[k]'h) := by
  rw [List.getElem?_eq_getElem (by rw [len_data]; exact h)]; rfl

/-- Nothing: of a stroke that begins no mark. -/
theorem mko_no {l : List UInt8} (h0 : l[0]? = some 92) (h1 : ¬ ∃ rest, l = 92 :: 92 :: rest) (h2 : ¬ ∃ n rest, 128 ≤ n ∧ n < 256 ∧ l = [92, 33] ++ Rc1.hexL n ++ rest) (h3 : ¬ ∃ r rest, Rc1.scalar r ∧ l = [92, 123] ++ Rc1.hexL r ++ [125] ++ rest) (p : List UInt8) (k : Nat) : Rc1.MkO l p k :=
  ⟨fun c rest hc h => by rw [h] at h0; exact absurd (Option.some.inj h0) hc, Rc1.mk_no l h1 h2 h3 p k⟩

set_option maxHeartbeats 4000000 in
set_option maxRecDepth 100000 in
theorem one_any (s : ByteArray) (h0 : 0 < s.size) (hs : s.size ≤ 10000) (w : World) : Calls Tryd.prog 29 #[.string s] w (PostO s.data.toList w) := by
  have hB := (Below.refl w.heap.size w)
  have h0' : (0 : Int) < s.size := by omega
  have hb0 : (s[0]'h0).toNat < 256 := UInt8.toNat_lt _
  have G0 := Lib.hid (get0 s 0 h0)
  by_cases c0 : (s[0]'h0).toNat = 92
  · have e0 : (((s[0]'h0).toNat : Int) != 92) = false := by rw [bne_eq_false_iff_eq]; omega
    have HC0 := Lib.hid (show s.data.toList[0]? = some 92 by rw [G0.out, show (s[0]'h0) = 92 from UInt8.toNat_inj.1 c0])
    clear c0
    by_cases hz2 : 2 ≤ s.size
    · have z2' : decide ((2 : Int) ≤ s.size) = true := decide_eq_true (by omega)
      have z1 : 1 < s.size := by omega
      have z1' : (1 : Int) < s.size := by omega
      have hb1 : (s[1]'z1).toNat < 256 := UInt8.toNat_lt _
      have G1 := Lib.hid (get0 s 1 z1)
      by_cases c1 : (s[1]'z1).toNat = 92
      · have e1 : (((s[1]'z1).toNat : Int) == 92) = true := by rw [c1]; rfl
        have HC1 := Lib.hid (show s.data.toList[1]? = some 92 by rw [G1.out, show (s[1]'z1) = 92 from UInt8.toNat_inj.1 c1])
        clear c1
        go_enter Tryd.func29, Tryd.ntmps29
        go_wp2
        go_ret2
        refine ⟨_, 2, [92], rfl, by rw [len_data]; exact hz2, by simp, own_new w [92] _ rfl (by simp), fun _ => ⟨_, _, rfl⟩, ⟨fun c rest hc h => ?_, fun _ _ => ⟨rfl, rfl⟩, fun n rest _ _ h => ?_, fun r rest _ h => ?_⟩, hB.alloc (Nat.le_refl _) _⟩
        · have := HC0.out; rw [h] at this; exact absurd (Option.some.inj this) hc
        · have := HC1.out; rw [h] at this; simp at this
        · have := HC1.out; rw [h] at this; simp at this
      · have e1 : (((s[1]'z1).toNat : Int) == 92) = false := by rw [beq_eq_false_iff_ne]; omega
        have N1 := Lib.hid (show ¬ ∃ rest, s.data.toList = 92 :: 92 :: rest by
          rintro ⟨rest, h⟩
          have := G1.out; rw [h] at this
          have := Option.some.inj this
          rw [← this] at c1; exact c1 rfl)
        clear c1
        by_cases c33 : (s[1]'z1).toNat = 33
        · have e33 : (((s[1]'z1).toNat : Int) == 33) = true := by rw [c33]; rfl
          have e123 : (((s[1]'z1).toNat : Int) != 123) = true := by rw [bne_iff_ne]; omega
          have HC1 := Lib.hid (show s.data.toList[1]? = some 33 by rw [G1.out, show (s[1]'z1) = 33 from UInt8.toNat_inj.1 c33])
          have N3 := Lib.hid (show ¬ ∃ r rest, Rc1.scalar r ∧ s.data.toList = [92, 123] ++ Rc1.hexL r ++ [125] ++ rest by
            rintro ⟨r, rest, -, h⟩
            have := HC1.out; rw [h] at this; simp at this)
          clear c33
          by_cases hz4 : 4 ≤ s.size
          · have z4' : decide ((4 : Int) ≤ s.size) = true := decide_eq_true (by omega)
            have z2 : 2 < s.size := by omega
            have z3 : 3 < s.size := by omega
            have y2 : (2 : Int) < s.size := by omega
            have y3 : (3 : Int) < s.size := by omega
            have y4 : decide ((s.size : Int) < 4) = false := decide_eq_false (by omega)
            have hb2 : (s[2]'z2).toNat < 256 := UInt8.toNat_lt _
            have hb3 : (s[3]'z3).toNat < 256 := UInt8.toNat_lt _
            have HXX := Lib.hid (show ∀ n rest, 128 ≤ n → n < 256 → s.data.toList = [92, 33] ++ Rc1.hexL n ++ rest → (s[2]'z2) = Rc1.dg (n / 16) ∧ (s[3]'z3) = Rc1.dg (n % 16) by
              intro n rest n1 n2 h
              rw [Rc1.hexL_two n (by omega) n2] at h
              have g2 := get0 s 2 z2; have g3 := get0 s 3 z3
              rw [h] at g2 g3
              exact ⟨(Option.some.inj g2).symm, (Option.some.inj g3).symm⟩)
            have hv2 := value_any (s[2]'z2).toNat hb2
            have hv3 := value_any (s[3]'z3).toNat hb3
            have r2 := Rc1.vl_range (s[2]'z2).toNat
            have r3 := Rc1.vl_range (s[3]'z3).toNat
            generalize hq2 : Rc1.vl (s[2]'z2).toNat = v2 at hv2 r2
            generalize hq3 : Rc1.vl (s[3]'z3).toNat = v3 at hv3 r3
            have HQ2 := Lib.hid hq2; have HQ3 := Lib.hid hq3
            have V2 := Lib.hid hv2; have V3 := Lib.hid hv3
            clear hv2 hv3 hq2 hq3
            rcases r2 with r2 | r2
            · subst r2
              go_enter Tryd.func29, Tryd.ntmps29
              go_wp2_with (first | (go_at_call 38; ((with_reducible refine (V2.out _).mono ?_)); rintro e w1 ⟨rfl, rfl⟩) | (go_at_call 38; ((with_reducible refine (V3.out _).mono ?_)); rintro e w1 ⟨rfl, rfl⟩))
              go_ret2
              refine ⟨_, 0, [], rfl, Nat.zero_le _, by simp, own_nil _, fun h => absurd rfl h, mko_no HC0.out N1.out ?_ N3.out _ _, hB⟩
              rintro ⟨n, rest, n1, n2, h⟩
              have := HQ2.out
              rw [(HXX.out n rest n1 n2 h).1, Rc1.vl_dg _ (by omega)] at this
              omega
            · rcases r3 with r3 | r3
              · subst r3
                obtain ⟨r21, r22⟩ := r2
                go_enter Tryd.func29, Tryd.ntmps29
                go_wp2_with (first | (go_at_call 38; ((with_reducible refine (V2.out _).mono ?_)); rintro e w1 ⟨rfl, rfl⟩) | (go_at_call 38; ((with_reducible refine (V3.out _).mono ?_)); rintro e w1 ⟨rfl, rfl⟩))
                go_ret2
                refine ⟨_, 0, [], rfl, Nat.zero_le _, by simp, own_nil _, fun h => absurd rfl h, mko_no HC0.out N1.out ?_ N3.out _ _, hB⟩
                rintro ⟨n, rest, n1, n2, h⟩
                have := HQ3.out
                rw [(HXX.out n rest n1 n2 h).2, Rc1.vl_dg _ (by omega)] at this
                omega
              · obtain ⟨r21, r22⟩ := r2
                obtain ⟨r31, r32⟩ := r3
                go_enter Tryd.func29, Tryd.ntmps29
                go_wp2_with (first | (go_at_call 38; ((with_reducible refine (V2.out _).mono ?_)); rintro e w1 ⟨rfl, rfl⟩) | (go_at_call 38; ((with_reducible refine (V3.out _).mono ?_)); rintro e w1 ⟨rfl, rfl⟩))
                go_region_with (first | (go_at_call 38; ((with_reducible refine (V2.out _).mono ?_)); rintro e w1 ⟨rfl, rfl⟩) | (go_at_call 38; ((with_reducible refine (V3.out _).mono ?_)); rintro e w1 ⟨rfl, rfl⟩))
                all_goals
                  go_wp2
                  go_ret2
                  refine ⟨_, 4, [UInt8.ofNat (16 * v2 + v3).toNat], rfl, by rw [len_data]; exact hz4, by simp, own_new w [UInt8.ofNat (16 * v2 + v3).toNat] _ ?_ (by simp), fun _ => ⟨_, _, rfl⟩, ⟨fun c rest hc h => ?_, fun rest h => absurd ⟨rest, h⟩ N1.out, fun n rest n1 n2 h => ?_, fun r rest hr h => absurd ⟨r, rest, hr, h⟩ N3.out⟩, (hB.alloc (Nat.le_refl _) _).drew⟩
                  · simp only [Lib.byteCells, List.map_cons, List.map_nil]
                    rw [u8_of _ (show (16 * v2 + v3).toNat < 256 by omega), Int.toNat_of_nonneg (by omega), wrap3 v2 v3 r21 r22 r31 r32]
                  · have := HC0.out; rw [h] at this; exact absurd (Option.some.inj this) hc
                  · have q2 := HQ2.out; have q3 := HQ3.out
                    rw [(HXX.out n rest n1 n2 h).1, Rc1.vl_dg _ (by omega)] at q2
                    rw [(HXX.out n rest n1 n2 h).2, Rc1.vl_dg _ (by omega)] at q3
                    exact ⟨by rw [show (16 * v2 + v3).toNat = n by omega], rfl⟩
          · have z4' : decide ((4 : Int) ≤ s.size) = false := decide_eq_false (by omega)
            have y4 : decide ((s.size : Int) < 4) = true := decide_eq_true (by omega)
            go_enter Tryd.func29, Tryd.ntmps29
            go_wp2
            go_ret2
            refine ⟨_, 0, [], rfl, Nat.zero_le _, by simp, own_nil _, fun h => absurd rfl h, mko_no HC0.out N1.out ?_ N3.out _ _, hB⟩
            rintro ⟨n, rest, n1, n2, h⟩
            have := congrArg List.length h
            rw [len_data, Rc1.hexL_two n (by omega) n2] at this
            simp at this; omega
        · have e33 : (((s[1]'z1).toNat : Int) == 33) = false := by rw [beq_eq_false_iff_ne]; omega
          have N2 := Lib.hid (show ¬ ∃ n rest, 128 ≤ n ∧ n < 256 ∧ s.data.toList = [92, 33] ++ Rc1.hexL n ++ rest by
            rintro ⟨n, rest, -, -, h⟩
            have := G1.out; rw [h] at this
            have := Option.some.inj this
            rw [← this] at c33; exact c33 rfl)
          clear c33
          by_cases hz4 : 4 ≤ s.size
          · have z4' : decide ((4 : Int) ≤ s.size) = true := decide_eq_true (by omega)
            have y4 : decide ((s.size : Int) < 4) = false := decide_eq_false (by omega)
            by_cases c123 : (s[1]'z1).toNat = 123
            · have e123 : (((s[1]'z1).toNat : Int) != 123) = false := by rw [bne_eq_false_iff_eq]; omega
              clear c123
              go_enter Tryd.func29, Tryd.ntmps29
              go_wp2
              go_loopw [4, 5] (fun vn vi wr => ∃ (k : Nat) (a : Int), vn = .int .i64 a ∧ vi = .int .i64 k ∧ 2 ≤ k ∧ k ≤ 9 ∧ k ≤ s.size ∧ 0 ≤ a ∧ a < 268435456 ∧ Hid (a < 16 ^ (k - 2) ∧ Rc1.Dg s.data.toList k a) ∧ wr = w) (fun _ vi _ => 9 - (intOf vi).toNat)
              case atStart => exact ⟨2, 0, rfl, rfl, by omega, by omega, by omega, by omega, by omega, ⟨by decide, Rc1.Dg.start _⟩, rfl⟩
              case round =>
                obtain ⟨k, a, rfl, rfl, hk2, hk9, hks, ha0, ha1, hD, rfl⟩ := hrel
                by_cases hlt : k < s.size
                · have hlt' : (k : Int) < s.size := by omega
                  by_cases hl9 : k < 9
                  · have hl9' : decide ((k : Int) < 9) = true := decide_eq_true (by omega)
                    have GK := Lib.hid (get0 s k hlt)
                    have hbk : (s[k]'hlt).toNat < 256 := UInt8.toNat_lt _
                    have hvk := value_any (s[k]'hlt).toNat hbk
                    have rk := Rc1.vl_range (s[k]'hlt).toNat
                    have hq125 : (s[k]'hlt).toNat = 125 → Rc1.vl (s[k]'hlt).toNat = -1 := by intro h; rw [h]; decide
                    generalize hqk : Rc1.vl (s[k]'hlt).toNat = vk at hvk rk hq125
                    have HQK := Lib.hid hqk
                    have VK := Lib.hid hvk
                    clear hvk hqk
                    by_cases c125 : (s[k]'hlt).toNat = 125
                    · have e125 : (((s[k]'hlt).toNat : Int) == 125) = true := by rw [c125]; rfl
                      have HC := Lib.hid (show (s[k]'hlt) = 125 from UInt8.toNat_inj.1 c125)
                      have hvm : vk = -1 := hq125 c125
                      by_cases hgo : 2 < k ∧ a ≤ 1114111
                      · obtain ⟨hg1, hg2⟩ := hgo
                        have g1 : decide ((2 : Int) < k) = true := decide_eq_true (by omega)
                        have g2 : decide (a ≤ (1114111 : Int)) = true := decide_eq_true hg2
                        have BY := Lib.hid (fun w => Bytes_core a.toNat a (by omega) ha0 hg2 w)
                        clear c125 hvm hq125 rk
                        go_wp2_with fail
                        refine (BY.out _).mono ?_
                        rintro e w2 ⟨rfl, hown, hbw⟩
                        have hel := Rc1.enc_len a.toNat
                        have HOW := Lib.hid hown
                        clear hown
                        go_wp2
                        go_ret2
                        refine ⟨_, k + 1, Rc1.enc a.toNat, rfl, by rw [len_data]; omega, hel.2, HOW.out, fun _ => ⟨_, _, rfl⟩, ⟨fun c rest hc h => ?_, fun rest h => absurd ⟨rest, h⟩ N1.out, fun n rest n1 n2 h => absurd ⟨n, rest, n1, n2, h⟩ N2.out, fun r rest hr h => ?_⟩, hbw⟩
                        · have := HC0.out; rw [h] at this; exact absurd (Option.some.inj this) hc
                        · have := hD.out.2.brace hk2 (by rw [GK.out, HC.out]) r rest hr h
                          exact ⟨by rw [show a.toNat = r by omega], this.2⟩
                      · have NO := Lib.hid (hD.out.2.none hk2 GK.out (by rw [HQK.out]; omega) (fun _ => hgo))
                        have hgo2 : ¬ 2 < k ∨ (2 < k ∧ 1114111 < a) := by omega
                        clear hgo c125 hq125 rk
                        subst hvm
                        rcases hgo2 with hg | ⟨hg, hg'⟩
                        · have g1 : decide ((2 : Int) < k) = false := decide_eq_false (by omega)
                          go_wp2_with (go_at_call 38; ((with_reducible refine (VK.out _).mono ?_)); rintro e w1 ⟨rfl, rfl⟩)
                          go_ret2
                          exact ⟨_, 0, [], rfl, Nat.zero_le _, by simp, own_nil _, fun h => absurd rfl h, mko_no HC0.out N1.out N2.out NO.out _ _, hB⟩
                        · have g1 : decide ((2 : Int) < k) = true := decide_eq_true (by omega)
                          have g2 : decide (a ≤ (1114111 : Int)) = false := decide_eq_false (by omega)
                          go_wp2_with (go_at_call 38; ((with_reducible refine (VK.out _).mono ?_)); rintro e w1 ⟨rfl, rfl⟩)
                          go_ret2
                          exact ⟨_, 0, [], rfl, Nat.zero_le _, by simp, own_nil _, fun h => absurd rfl h, mko_no HC0.out N1.out N2.out NO.out _ _, hB⟩
                    · have e125 : (((s[k]'hlt).toNat : Int) == 125) = false := by rw [beq_eq_false_iff_ne]; omega
                      rcases rk with rk | ⟨rk1, rk2⟩
                      · have NO := Lib.hid (hD.out.2.none hk2 GK.out (by rw [HQK.out]; omega) (fun hc => absurd (by rw [hc]; rfl) c125))
                        subst rk
                        clear c125 hq125
                        go_wp2_with (go_at_call 38; ((with_reducible refine (VK.out _).mono ?_)); rintro e w1 ⟨rfl, rfl⟩)
                        go_ret2
                        exact ⟨_, 0, [], rfl, Nat.zero_le _, by simp, own_nil _, fun h => absurd rfl h, mko_no HC0.out N1.out N2.out NO.out _ _, hB⟩
                      · have HST := Lib.hid (show 16 * a + vk < 16 ^ (k + 1 - 2) ∧ Rc1.Dg s.data.toList (k + 1) (16 * a + vk) by
                          refine ⟨pow_step a vk k hk2 hD.out.1 rk2, ?_⟩
                          have := hD.out.2.step hk2 GK.out (by rw [HQK.out]; exact rk1)
                          rwa [HQK.out] at this)
                        have hmx := pow_max _ (k + 1) (by omega) HST.out.1
                        clear c125 hq125
                        go_wp2_with (go_at_call 38; ((with_reducible refine (VK.out _).mono ?_)); rintro e w1 ⟨rfl, rfl⟩)
                        go_roundw
                        case rel => exact ⟨k + 1, 16 * a + vk, by go_num, by go_num, by omega, by omega, by omega, by omega, hmx, HST.out, by first | rfl | trivial⟩
                        case measure => simp [intOf]; omega
                  · have hl9' : decide ((k : Int) < 9) = false := decide_eq_false (by omega)
                    have NO := Lib.hid (hD.out.2.over (.inr (by omega)))
                    go_wp2
                    go_ret2
                    exact ⟨_, 0, [], rfl, Nat.zero_le _, by simp, own_nil _, fun h => absurd rfl h, mko_no HC0.out N1.out N2.out NO.out _ _, hB⟩
                · have NO := Lib.hid (hD.out.2.over (.inl (by rw [len_data]; omega)))
                  go_wp2
                  go_ret2
                  exact ⟨_, 0, [], rfl, Nat.zero_le _, by simp, own_nil _, fun h => absurd rfl h, mko_no HC0.out N1.out N2.out NO.out _ _, hB⟩
            · have e123 : (((s[1]'z1).toNat : Int) != 123) = true := by rw [bne_iff_ne]; omega
              have N3 := Lib.hid (show ¬ ∃ r rest, Rc1.scalar r ∧ s.data.toList = [92, 123] ++ Rc1.hexL r ++ [125] ++ rest by
                rintro ⟨r, rest, -, h⟩
                have := G1.out; rw [h] at this
                have := Option.some.inj this
                rw [← this] at c123; exact c123 rfl)
              clear c123
              go_enter Tryd.func29, Tryd.ntmps29
              go_wp2
              go_ret2
              exact ⟨_, 0, [], rfl, Nat.zero_le _, by simp, own_nil _, fun h => absurd rfl h, mko_no HC0.out N1.out N2.out N3.out _ _, hB⟩
          · have z4' : decide ((4 : Int) ≤ s.size) = false := decide_eq_false (by omega)
            have y4 : decide ((s.size : Int) < 4) = true := decide_eq_true (by omega)
            have N3 := Lib.hid (show ¬ ∃ r rest, Rc1.scalar r ∧ s.data.toList = [92, 123] ++ Rc1.hexL r ++ [125] ++ rest by
              rintro ⟨r, rest, -, h⟩
              have := congrArg List.length h
              have h2 := List.length_pos_iff.2 (Rc1.hexL_ne r)
              rw [len_data] at this
              simp at this; omega)
            go_enter Tryd.func29, Tryd.ntmps29
            go_wp2
            go_ret2
            exact ⟨_, 0, [], rfl, Nat.zero_le _, by simp, own_nil _, fun h => absurd rfl h, mko_no HC0.out N1.out N2.out N3.out _ _, hB⟩
    · have z2' : decide ((2 : Int) ≤ s.size) = false := decide_eq_false (by omega)
      have z4' : decide ((4 : Int) ≤ s.size) = false := decide_eq_false (by omega)
      have y4 : decide ((s.size : Int) < 4) = true := decide_eq_true (by omega)
      have HSZ := Lib.hid (show s.data.toList.length < 2 by rw [len_data]; omega)
      go_enter Tryd.func29, Tryd.ntmps29
      go_wp2
      go_ret2
      refine ⟨_, 0, [], rfl, Nat.zero_le _, by simp, own_nil _, fun h => absurd rfl h, mko_no HC0.out ?_ ?_ ?_ _ _, hB⟩
      · rintro ⟨rest, h⟩; have := HSZ.out; rw [h] at this; simp at this; try omega
      · rintro ⟨n, rest, -, -, h⟩; have := HSZ.out; rw [h] at this; simp at this; omega
      · rintro ⟨n, rest, -, h⟩; have := HSZ.out; rw [h] at this; simp at this; omega
  · have e0 : (((s[0]'h0).toNat : Int) != 92) = true := by rw [bne_iff_ne]; omega
    have HC0 := Lib.hid (show (s[0]'h0) ≠ 92 by intro e; rw [e] at c0; exact c0 rfl)
    clear c0
    go_enter Tryd.func29, Tryd.ntmps29
    go_wp2
    go_ret2
    refine ⟨_, 1, [s[0]'h0], rfl, by rw [len_data]; exact h0, by simp, own_new w [s[0]'h0] _ rfl (by simp), fun _ => ⟨_, _, rfl⟩, ⟨fun c rest hc h => ?_, ?_⟩, hB.alloc (Nat.le_refl _) _⟩
    · have := G0.out; rw [h] at this
      rw [← Option.some.inj this]; exact ⟨rfl, rfl⟩
    · refine Rc1.mk_no _ ?_ ?_ ?_ _ _
      · rintro ⟨rest, h⟩
        have := G0.out; rw [h] at this; exact HC0.out (Option.some.inj this).symm
      · rintro ⟨n, rest, -, -, h⟩
        have := G0.out; rw [h] at this; exact HC0.out (Option.some.inj this).symm
      · rintro ⟨n, rest, -, h⟩
        have := G0.out; rw [h] at this; exact HC0.out (Option.some.inj this).symm

end Go.Proofs.YtghnjdbamenkgaaDoor
