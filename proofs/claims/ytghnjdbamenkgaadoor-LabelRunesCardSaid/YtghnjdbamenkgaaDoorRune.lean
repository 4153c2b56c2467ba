/-
  What the reference's more and Rune answer: whether a byte goes on, and what a text begins with. Condition: the text has a byte, and at most 2^40.
-/
import Derived.Test.YtghnjdbamenkgaaDoorMathR
import Derived.Test.YtghnjdbamenkgaaDoorShown
import Derived.RegionTactic
import Derived.ChangeAlike
namespace Go.Proofs.YtghnjdbamenkgaaDoor
open Go.RowKit

theorem mB_eq (s : ByteArray) (i : Nat) (h : i < s.size) : Rc1.mB s.data.toList i = (decide (128 ≤ (s[i]'h).toNat) && decide ((s[i]'h).toNat ≤ 191)) := by
  unfold Rc1.mB
  rw [get_bt s i h, len_data, Bool.eq_iff_iff]
  simp only [decide_eq_true_eq, Bool.and_eq_true]
  omega

theorem mB_out (s : ByteArray) (i : Nat) (h : ¬ i < s.size) : Rc1.mB s.data.toList i = false := by
  unfold Rc1.mB; rw [len_data]; exact decide_eq_false (by omega)

set_option maxHeartbeats 400000 in
theorem more_any (s : ByteArray) (i : Nat) (_hs : s.size ≤ 1099511627776) (_hi : i ≤ 8) (w : World) :
    Calls Tryd.prog 36 #[.string s, .int .i64 i] w fun e w' => e = .returned (.bool (Rc1.mB s.data.toList i)) ∧ w = w' := by
  by_cases h : i < s.size
  · have HM := Lib.hid (mB_eq s i h)
    by_cases h1 : 128 ≤ (s[i]'h).toNat
    · have h1' : decide (128 ≤ (s[i]'h).toNat) = true := decide_eq_true h1
      go_enter Tryd.func36, Tryd.ntmps36
      go_wp2
      go_ret
      rw [HM.out, h1']
      refine ⟨?_, rfl⟩
      simp
      omega
    · have h1' : decide (128 ≤ (s[i]'h).toNat) = false := decide_eq_false h1
      go_enter Tryd.func36, Tryd.ntmps36
      go_wp2
      go_ret
      rw [HM.out, h1']
      exact ⟨rfl, rfl⟩
  · have HM := Lib.hid (mB_out s i h)
    go_enter Tryd.func36, Tryd.ntmps36
    go_wp2
    go_ret
    rw [HM.out]
    exact ⟨rfl, rfl⟩

theorem more1 (s : ByteArray) (hs : s.size ≤ 1099511627776) (b : Bool) (h : Rc1.mB s.data.toList 1 = b) (w : World) : Calls Tryd.prog 36 #[.string s, .int .i64 1] w fun e w' => e = .returned (.bool b) ∧ w = w' := by
  have := more_any s 1 hs (by omega) w
  rwa [h] at this
theorem more2 (s : ByteArray) (hs : s.size ≤ 1099511627776) (b : Bool) (h : Rc1.mB s.data.toList 2 = b) (w : World) : Calls Tryd.prog 36 #[.string s, .int .i64 2] w fun e w' => e = .returned (.bool b) ∧ w = w' := by
  have := more_any s 2 hs (by omega) w
  rwa [h] at this
theorem more3 (s : ByteArray) (hs : s.size ≤ 1099511627776) (b : Bool) (h : Rc1.mB s.data.toList 3 = b) (w : World) : Calls Tryd.prog 36 #[.string s, .int .i64 3] w fun e w' => e = .returned (.bool b) ∧ w = w' := by
  have := more_any s 3 hs (by omega) w
  rwa [h] at this

theorem ret2_of {a b c d : Int} (h : (a, b) = (c, d)) : Ending.returned (.tuple #[.int .i64 c, .int .i64 d]) = .returned (.tuple #[.int .i64 a, .int .i64 b]) := by
  simp only [Prod.mk.injEq] at h; rw [h.1, h.2]

set_option maxHeartbeats 4000000 in
set_option maxRecDepth 100000 in
theorem Rune_any (s : ByteArray) (h0 : 0 < s.size) (hs : s.size ≤ 1099511627776) (w : World) :
    Calls Tryd.prog 27 #[.string s] w fun e w' => e = .returned (.tuple #[.int .i64 (Rc1.rr s.data.toList).1, .int .i64 (Rc1.rr s.data.toList).2]) ∧ Below w.heap.size w w' := by
  have hb0 : (s[0]'h0).toNat < 256 := UInt8.toNat_lt _
  have G0 := Lib.hid (get_bt s 0 h0)
  have hB := Below.refl w.heap.size w
  by_cases l1 : (s[0]'h0).toNat < 128
  · have HR := Lib.hid (Rc1.rr1 (l := s.data.toList) (by rw [G0.out]; exact l1))
    go_enter Tryd.func27, Tryd.ntmps27
    go_wp2
    go_ret2
    refine ⟨ret2_of (by rw [HR.out, G0.out]), hB⟩
  · have HM1 := Lib.hid (fun b h => more1 s hs b h)
    have HM2 := Lib.hid (fun b h => more2 s hs b h)
    have HM3 := Lib.hid (fun b h => more3 s hs b h)
    by_cases l2 : (s[0]'h0).toNat < 194
    · have HR := Lib.hid (Rc1.rr0 (l := s.data.toList) (by rw [G0.out]; omega) (fun h => by rw [G0.out] at h; first | omega | exact m1) (fun h => by rw [G0.out] at h; first | omega | exact .inl m1 | exact .inr (.inl m2) | (rw [G0.out, get_bt s 1 z1, get_bt s 2 z2]; omega)) (fun h => by rw [G0.out] at h; first | omega | exact .inl m1 | exact .inr (.inl m2) | exact .inr (.inr (.inl m3)) | (rw [G0.out, get_bt s 1 z1, get_bt s 2 z2, get_bt s 3 z3]; omega)))
      go_enter Tryd.func27, Tryd.ntmps27
      go_wp2
      go_ret2
      exact ⟨ret2_of HR.out, hB⟩
    · by_cases l3 : (s[0]'h0).toNat ≤ 223
      · cases m1 : Rc1.mB s.data.toList 1 with
        | false =>
          have HR := Lib.hid (Rc1.rr0 (l := s.data.toList) (by rw [G0.out]; omega) (fun h => by rw [G0.out] at h; first | omega | exact m1) (fun h => by rw [G0.out] at h; first | omega | exact .inl m1 | exact .inr (.inl m2) | (rw [G0.out, get_bt s 1 z1, get_bt s 2 z2]; omega)) (fun h => by rw [G0.out] at h; first | omega | exact .inl m1 | exact .inr (.inl m2) | exact .inr (.inr (.inl m3)) | (rw [G0.out, get_bt s 1 z1, get_bt s 2 z2, get_bt s 3 z3]; omega)))
          have M1 := Lib.hid (HM1.out _ m1)
          clear m1 HM1 HM2 HM3
          go_enter Tryd.func27, Tryd.ntmps27
          go_wp2_with (go_at_call 36; ((with_reducible refine (M1.out _).mono ?_)); rintro e w1 ⟨rfl, rfl⟩)
          go_ret2
          exact ⟨ret2_of HR.out, hB⟩
        | true =>
          have q1 := Rc1.mB_true m1
          rw [len_data] at q1
          have z1 : 1 < s.size := q1.1
          have y1 : (1 : Int) < s.size := by omega
          have b1 : (s[1]'z1).toNat < 256 := UInt8.toNat_lt _
          have k1 := q1.2
          rw [get_bt s 1 z1] at k1
          have HR := Lib.hid (Rc1.rr2 (l := s.data.toList) (by rw [G0.out]; omega) m1)
          rw [G0.out, get_bt s 1 z1] at HR
          have M1 := Lib.hid (HM1.out _ m1)
          clear m1 q1 HM1 HM2 HM3
          go_enter Tryd.func27, Tryd.ntmps27
          go_wp2_with (go_at_call 36; ((with_reducible refine (M1.out _).mono ?_)); rintro e w1 ⟨rfl, rfl⟩)
          go_ret2
          exact ⟨ret2_of HR.out, hB⟩
      · by_cases l4 : (s[0]'h0).toNat ≤ 239
        · cases m1 : Rc1.mB s.data.toList 1 with
          | false =>
            have HR := Lib.hid (Rc1.rr0 (l := s.data.toList) (by rw [G0.out]; omega) (fun h => by rw [G0.out] at h; first | omega | exact m1) (fun h => by rw [G0.out] at h; first | omega | exact .inl m1 | exact .inr (.inl m2) | (rw [G0.out, get_bt s 1 z1, get_bt s 2 z2]; omega)) (fun h => by rw [G0.out] at h; first | omega | exact .inl m1 | exact .inr (.inl m2) | exact .inr (.inr (.inl m3)) | (rw [G0.out, get_bt s 1 z1, get_bt s 2 z2, get_bt s 3 z3]; omega)))
            have M1 := Lib.hid (HM1.out _ m1)
            clear m1 HM1 HM2 HM3
            go_enter Tryd.func27, Tryd.ntmps27
            go_wp2_with (first | (go_at_call 36; ((with_reducible refine (M1.out _).mono ?_)); rintro e w1 ⟨rfl, rfl⟩))
            go_ret2
            exact ⟨ret2_of HR.out, hB⟩
          | true =>
            cases m2 : Rc1.mB s.data.toList 2 with
              | false =>
                have HR := Lib.hid (Rc1.rr0 (l := s.data.toList) (by rw [G0.out]; omega) (fun h => by rw [G0.out] at h; first | omega | exact m1) (fun h => by rw [G0.out] at h; first | omega | exact .inl m1 | exact .inr (.inl m2) | (rw [G0.out, get_bt s 1 z1, get_bt s 2 z2]; omega)) (fun h => by rw [G0.out] at h; first | omega | exact .inl m1 | exact .inr (.inl m2) | exact .inr (.inr (.inl m3)) | (rw [G0.out, get_bt s 1 z1, get_bt s 2 z2, get_bt s 3 z3]; omega)))
                have M1 := Lib.hid (HM1.out _ m1)
                have M2 := Lib.hid (HM2.out _ m2)
                clear m1 m2 HM1 HM2 HM3
                go_enter Tryd.func27, Tryd.ntmps27
                go_wp2_with (first | (go_at_call 36; ((with_reducible refine (M1.out _).mono ?_)); rintro e w1 ⟨rfl, rfl⟩) | (go_at_call 36; ((with_reducible refine (M2.out _).mono ?_)); rintro e w1 ⟨rfl, rfl⟩))
                go_ret2
                exact ⟨ret2_of HR.out, hB⟩
              | true =>
                have q1 := Rc1.mB_true m1
                rw [len_data] at q1
                have z1 : 1 < s.size := q1.1
                have y1 : (1 : Int) < s.size := by omega
                have b1 : (s[1]'z1).toNat < 256 := UInt8.toNat_lt _
                have k1 := q1.2
                rw [get_bt s 1 z1] at k1
                have q2 := Rc1.mB_true m2
                rw [len_data] at q2
                have z2 : 2 < s.size := q2.1
                have y2 : (2 : Int) < s.size := by omega
                have b2 : (s[2]'z2).toNat < 256 := UInt8.toNat_lt _
                have k2 := q2.2
                rw [get_bt s 2 z2] at k2
                by_cases g1 : (2048 : Int) ≤ ((((s[0]'h0).toNat : Int) - 224) * 4096 + (((s[1]'z1).toNat : Int) - 128) * 64 + ((s[2]'z2).toNat : Int) - 128 : Int)
                · by_cases g2 : (55296 : Int) ≤ ((((s[0]'h0).toNat : Int) - 224) * 4096 + (((s[1]'z1).toNat : Int) - 128) * 64 + ((s[2]'z2).toNat : Int) - 128 : Int)
                  · by_cases g3 : ((((s[0]'h0).toNat : Int) - 224) * 4096 + (((s[1]'z1).toNat : Int) - 128) * 64 + ((s[2]'z2).toNat : Int) - 128 : Int) ≤ (57343 : Int)
                    · have HR := Lib.hid (Rc1.rr0 (l := s.data.toList) (by rw [G0.out]; omega) (fun h => by rw [G0.out] at h; first | omega | exact m1) (fun h => by rw [G0.out] at h; first | omega | exact .inl m1 | exact .inr (.inl m2) | (rw [G0.out, get_bt s 1 z1, get_bt s 2 z2]; omega)) (fun h => by rw [G0.out] at h; first | omega | exact .inl m1 | exact .inr (.inl m2) | exact .inr (.inr (.inl m3)) | (rw [G0.out, get_bt s 1 z1, get_bt s 2 z2, get_bt s 3 z3]; omega)))
                      obtain ⟨n, hn⟩ : ∃ n : Int, n = ((Rc1.bt s.data.toList 0 : Int) - 224) * 4096 + ((Rc1.bt s.data.toList 1 : Int) - 128) * 64 + (Rc1.bt s.data.toList 2 : Int) - 128 := ⟨_, rfl⟩
                      rw [G0.out, get_bt s 1 z1, get_bt s 2 z2] at hn
                      have g3' : decide (n ≤ 57343) = true := decide_eq_true (by omega)
                      have g3n : (!decide (n ≤ 57343)) = false := by rw [g3']; rfl
                      rw [hn] at g3' g3n
                      clear hn
                      have M1 := Lib.hid (HM1.out _ m1)
                      have M2 := Lib.hid (HM2.out _ m2)
                      clear m1 q1 m2 q2 HM1 HM2 HM3
                      go_enter Tryd.func27, Tryd.ntmps27
                      go_wp2_with (first | (go_at_call 36; ((with_reducible refine (M1.out _).mono ?_)); rintro e w1 ⟨rfl, rfl⟩) | (go_at_call 36; ((with_reducible refine (M2.out _).mono ?_)); rintro e w1 ⟨rfl, rfl⟩))
                      go_region
                      go_wp2
                      go_ret2
                      exact ⟨ret2_of HR.out, hB.drew⟩
                    · have HR := Lib.hid (Rc1.rr3 (l := s.data.toList) (by rw [G0.out]; omega) m1 m2 _ rfl (by rw [G0.out, get_bt s 1 z1, get_bt s 2 z2]; omega))
                      rw [G0.out, get_bt s 1 z1, get_bt s 2 z2] at HR
                      obtain ⟨n, hn⟩ : ∃ n : Int, n = ((Rc1.bt s.data.toList 0 : Int) - 224) * 4096 + ((Rc1.bt s.data.toList 1 : Int) - 128) * 64 + (Rc1.bt s.data.toList 2 : Int) - 128 := ⟨_, rfl⟩
                      rw [G0.out, get_bt s 1 z1, get_bt s 2 z2] at hn
                      have g3' : decide (n ≤ 57343) = false := decide_eq_false (by omega)
                      have g3n : (!decide (n ≤ 57343)) = true := by rw [g3']; rfl
                      rw [hn] at g3' g3n
                      clear hn
                      have M1 := Lib.hid (HM1.out _ m1)
                      have M2 := Lib.hid (HM2.out _ m2)
                      clear m1 q1 m2 q2 HM1 HM2 HM3
                      go_enter Tryd.func27, Tryd.ntmps27
                      go_wp2_with (first | (go_at_call 36; ((with_reducible refine (M1.out _).mono ?_)); rintro e w1 ⟨rfl, rfl⟩) | (go_at_call 36; ((with_reducible refine (M2.out _).mono ?_)); rintro e w1 ⟨rfl, rfl⟩))
                      go_region
                      go_wp2
                      go_ret2
                      exact ⟨ret2_of HR.out, hB.drew⟩
                  · have HR := Lib.hid (Rc1.rr3 (l := s.data.toList) (by rw [G0.out]; omega) m1 m2 _ rfl (by rw [G0.out, get_bt s 1 z1, get_bt s 2 z2]; omega))
                    rw [G0.out, get_bt s 1 z1, get_bt s 2 z2] at HR
                    have M1 := Lib.hid (HM1.out _ m1)
                    have M2 := Lib.hid (HM2.out _ m2)
                    clear m1 q1 m2 q2 HM1 HM2 HM3
                    go_enter Tryd.func27, Tryd.ntmps27
                    go_wp2_with (first | (go_at_call 36; ((with_reducible refine (M1.out _).mono ?_)); rintro e w1 ⟨rfl, rfl⟩) | (go_at_call 36; ((with_reducible refine (M2.out _).mono ?_)); rintro e w1 ⟨rfl, rfl⟩))
                    go_region
                    go_wp2
                    go_ret2
                    exact ⟨ret2_of HR.out, hB.drew⟩
                · have HR := Lib.hid (Rc1.rr0 (l := s.data.toList) (by rw [G0.out]; omega) (fun h => by rw [G0.out] at h; first | omega | exact m1) (fun h => by rw [G0.out] at h; first | omega | exact .inl m1 | exact .inr (.inl m2) | (rw [G0.out, get_bt s 1 z1, get_bt s 2 z2]; omega)) (fun h => by rw [G0.out] at h; first | omega | exact .inl m1 | exact .inr (.inl m2) | exact .inr (.inr (.inl m3)) | (rw [G0.out, get_bt s 1 z1, get_bt s 2 z2, get_bt s 3 z3]; omega)))
                  have M1 := Lib.hid (HM1.out _ m1)
                  have M2 := Lib.hid (HM2.out _ m2)
                  clear m1 q1 m2 q2 HM1 HM2 HM3
                  go_enter Tryd.func27, Tryd.ntmps27
                  go_wp2_with (first | (go_at_call 36; ((with_reducible refine (M1.out _).mono ?_)); rintro e w1 ⟨rfl, rfl⟩) | (go_at_call 36; ((with_reducible refine (M2.out _).mono ?_)); rintro e w1 ⟨rfl, rfl⟩))
                  go_region
                  go_wp2
                  go_ret2
                  exact ⟨ret2_of HR.out, hB.drew⟩
        · by_cases l5 : (s[0]'h0).toNat ≤ 244
          · cases m1 : Rc1.mB s.data.toList 1 with
            | false =>
              have HR := Lib.hid (Rc1.rr0 (l := s.data.toList) (by rw [G0.out]; omega) (fun h => by rw [G0.out] at h; first | omega | exact m1) (fun h => by rw [G0.out] at h; first | omega | exact .inl m1 | exact .inr (.inl m2) | (rw [G0.out, get_bt s 1 z1, get_bt s 2 z2]; omega)) (fun h => by rw [G0.out] at h; first | omega | exact .inl m1 | exact .inr (.inl m2) | exact .inr (.inr (.inl m3)) | (rw [G0.out, get_bt s 1 z1, get_bt s 2 z2, get_bt s 3 z3]; omega)))
              have M1 := Lib.hid (HM1.out _ m1)
              clear m1 HM1 HM2 HM3
              go_enter Tryd.func27, Tryd.ntmps27
              go_wp2_with (first | (go_at_call 36; ((with_reducible refine (M1.out _).mono ?_)); rintro e w1 ⟨rfl, rfl⟩))
              go_ret2
              exact ⟨ret2_of HR.out, hB⟩
            | true =>
              cases m2 : Rc1.mB s.data.toList 2 with
                | false =>
                  have HR := Lib.hid (Rc1.rr0 (l := s.data.toList) (by rw [G0.out]; omega) (fun h => by rw [G0.out] at h; first | omega | exact m1) (fun h => by rw [G0.out] at h; first | omega | exact .inl m1 | exact .inr (.inl m2) | (rw [G0.out, get_bt s 1 z1, get_bt s 2 z2]; omega)) (fun h => by rw [G0.out] at h; first | omega | exact .inl m1 | exact .inr (.inl m2) | exact .inr (.inr (.inl m3)) | (rw [G0.out, get_bt s 1 z1, get_bt s 2 z2, get_bt s 3 z3]; omega)))
                  have M1 := Lib.hid (HM1.out _ m1)
                  have M2 := Lib.hid (HM2.out _ m2)
                  clear m1 m2 HM1 HM2 HM3
                  go_enter Tryd.func27, Tryd.ntmps27
                  go_wp2_with (first | (go_at_call 36; ((with_reducible refine (M1.out _).mono ?_)); rintro e w1 ⟨rfl, rfl⟩) | (go_at_call 36; ((with_reducible refine (M2.out _).mono ?_)); rintro e w1 ⟨rfl, rfl⟩))
                  go_ret2
                  exact ⟨ret2_of HR.out, hB⟩
                | true =>
                  cases m3 : Rc1.mB s.data.toList 3 with
                    | false =>
                      have HR := Lib.hid (Rc1.rr0 (l := s.data.toList) (by rw [G0.out]; omega) (fun h => by rw [G0.out] at h; first | omega | exact m1) (fun h => by rw [G0.out] at h; first | omega | exact .inl m1 | exact .inr (.inl m2) | (rw [G0.out, get_bt s 1 z1, get_bt s 2 z2]; omega)) (fun h => by rw [G0.out] at h; first | omega | exact .inl m1 | exact .inr (.inl m2) | exact .inr (.inr (.inl m3)) | (rw [G0.out, get_bt s 1 z1, get_bt s 2 z2, get_bt s 3 z3]; omega)))
                      have M1 := Lib.hid (HM1.out _ m1)
                      have M2 := Lib.hid (HM2.out _ m2)
                      have M3 := Lib.hid (HM3.out _ m3)
                      clear m1 m2 m3 HM1 HM2 HM3
                      go_enter Tryd.func27, Tryd.ntmps27
                      go_wp2_with (first | (go_at_call 36; ((with_reducible refine (M1.out _).mono ?_)); rintro e w1 ⟨rfl, rfl⟩) | (go_at_call 36; ((with_reducible refine (M2.out _).mono ?_)); rintro e w1 ⟨rfl, rfl⟩) | (go_at_call 36; ((with_reducible refine (M3.out _).mono ?_)); rintro e w1 ⟨rfl, rfl⟩))
                      go_ret2
                      exact ⟨ret2_of HR.out, hB⟩
                    | true =>
                      have q1 := Rc1.mB_true m1
                      rw [len_data] at q1
                      have z1 : 1 < s.size := q1.1
                      have y1 : (1 : Int) < s.size := by omega
                      have b1 : (s[1]'z1).toNat < 256 := UInt8.toNat_lt _
                      have k1 := q1.2
                      rw [get_bt s 1 z1] at k1
                      have q2 := Rc1.mB_true m2
                      rw [len_data] at q2
                      have z2 : 2 < s.size := q2.1
                      have y2 : (2 : Int) < s.size := by omega
                      have b2 : (s[2]'z2).toNat < 256 := UInt8.toNat_lt _
                      have k2 := q2.2
                      rw [get_bt s 2 z2] at k2
                      have q3 := Rc1.mB_true m3
                      rw [len_data] at q3
                      have z3 : 3 < s.size := q3.1
                      have y3 : (3 : Int) < s.size := by omega
                      have b3 : (s[3]'z3).toNat < 256 := UInt8.toNat_lt _
                      have k3 := q3.2
                      rw [get_bt s 3 z3] at k3
                      by_cases g1 : (65536 : Int) ≤ ((((s[0]'h0).toNat : Int) - 240) * 262144 + (((s[1]'z1).toNat : Int) - 128) * 4096 + (((s[2]'z2).toNat : Int) - 128) * 64 + ((s[3]'z3).toNat : Int) - 128 : Int)
                      · by_cases g2 : ((((s[0]'h0).toNat : Int) - 240) * 262144 + (((s[1]'z1).toNat : Int) - 128) * 4096 + (((s[2]'z2).toNat : Int) - 128) * 64 + ((s[3]'z3).toNat : Int) - 128 : Int) ≤ (1114111 : Int)
                        · have HR := Lib.hid (Rc1.rr4 (l := s.data.toList) (by rw [G0.out]; omega) m1 m2 m3 _ rfl (by rw [G0.out, get_bt s 1 z1, get_bt s 2 z2, get_bt s 3 z3]; omega))
                          rw [G0.out, get_bt s 1 z1, get_bt s 2 z2, get_bt s 3 z3] at HR
                          have M1 := Lib.hid (HM1.out _ m1)
                          have M2 := Lib.hid (HM2.out _ m2)
                          have M3 := Lib.hid (HM3.out _ m3)
                          clear m1 q1 m2 q2 m3 q3 HM1 HM2 HM3
                          go_enter Tryd.func27, Tryd.ntmps27
                          go_wp2_with (first | (go_at_call 36; ((with_reducible refine (M1.out _).mono ?_)); rintro e w1 ⟨rfl, rfl⟩) | (go_at_call 36; ((with_reducible refine (M2.out _).mono ?_)); rintro e w1 ⟨rfl, rfl⟩) | (go_at_call 36; ((with_reducible refine (M3.out _).mono ?_)); rintro e w1 ⟨rfl, rfl⟩))
                          go_region
                          go_wp2
                          go_ret2
                          exact ⟨ret2_of HR.out, hB.drew⟩
                        · have HR := Lib.hid (Rc1.rr0 (l := s.data.toList) (by rw [G0.out]; omega) (fun h => by rw [G0.out] at h; first | omega | exact m1) (fun h => by rw [G0.out] at h; first | omega | exact .inl m1 | exact .inr (.inl m2) | (rw [G0.out, get_bt s 1 z1, get_bt s 2 z2]; omega)) (fun h => by rw [G0.out] at h; first | omega | exact .inl m1 | exact .inr (.inl m2) | exact .inr (.inr (.inl m3)) | (rw [G0.out, get_bt s 1 z1, get_bt s 2 z2, get_bt s 3 z3]; omega)))
                          have M1 := Lib.hid (HM1.out _ m1)
                          have M2 := Lib.hid (HM2.out _ m2)
                          have M3 := Lib.hid (HM3.out _ m3)
                          clear m1 q1 m2 q2 m3 q3 HM1 HM2 HM3
                          go_enter Tryd.func27, Tryd.ntmps27
                          go_wp2_with (first | (go_at_call 36; ((with_reducible refine (M1.out _).mono ?_)); rintro e w1 ⟨rfl, rfl⟩) | (go_at_call 36; ((with_reducible refine (M2.out _).mono ?_)); rintro e w1 ⟨rfl, rfl⟩) | (go_at_call 36; ((with_reducible refine (M3.out _).mono ?_)); rintro e w1 ⟨rfl, rfl⟩))
                          go_region
                          go_wp2
                          go_ret2
                          exact ⟨ret2_of HR.out, hB.drew⟩
                      · have HR := Lib.hid (Rc1.rr0 (l := s.data.toList) (by rw [G0.out]; omega) (fun h => by rw [G0.out] at h; first | omega | exact m1) (fun h => by rw [G0.out] at h; first | omega | exact .inl m1 | exact .inr (.inl m2) | (rw [G0.out, get_bt s 1 z1, get_bt s 2 z2]; omega)) (fun h => by rw [G0.out] at h; first | omega | exact .inl m1 | exact .inr (.inl m2) | exact .inr (.inr (.inl m3)) | (rw [G0.out, get_bt s 1 z1, get_bt s 2 z2, get_bt s 3 z3]; omega)))
                        have M1 := Lib.hid (HM1.out _ m1)
                        have M2 := Lib.hid (HM2.out _ m2)
                        have M3 := Lib.hid (HM3.out _ m3)
                        clear m1 q1 m2 q2 m3 q3 HM1 HM2 HM3
                        go_enter Tryd.func27, Tryd.ntmps27
                        go_wp2_with (first | (go_at_call 36; ((with_reducible refine (M1.out _).mono ?_)); rintro e w1 ⟨rfl, rfl⟩) | (go_at_call 36; ((with_reducible refine (M2.out _).mono ?_)); rintro e w1 ⟨rfl, rfl⟩) | (go_at_call 36; ((with_reducible refine (M3.out _).mono ?_)); rintro e w1 ⟨rfl, rfl⟩))
                        go_region
                        go_wp2
                        go_ret2
                        exact ⟨ret2_of HR.out, hB.drew⟩
          · have HR := Lib.hid (Rc1.rr0 (l := s.data.toList) (by rw [G0.out]; omega) (fun h => by rw [G0.out] at h; first | omega | exact m1) (fun h => by rw [G0.out] at h; first | omega | exact .inl m1 | exact .inr (.inl m2) | (rw [G0.out, get_bt s 1 z1, get_bt s 2 z2]; omega)) (fun h => by rw [G0.out] at h; first | omega | exact .inl m1 | exact .inr (.inl m2) | exact .inr (.inr (.inl m3)) | (rw [G0.out, get_bt s 1 z1, get_bt s 2 z2, get_bt s 3 z3]; omega)))
            go_enter Tryd.func27, Tryd.ntmps27
            go_wp2
            go_ret2
            exact ⟨ret2_of HR.out, hB⟩

end Go.Proofs.YtghnjdbamenkgaaDoor
