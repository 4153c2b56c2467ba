/-
  What the methods of the document's own reader do to it. Conditions: as each theorem states them.
-/
import Derived.Test.YteellffkjjllgaaQDrPutR
namespace Go.Proofs.Yteellffkjjllgaa
open Go.RowKit

set_option maxHeartbeats 1000000 in
theorem TextR_any (b : Nat) (s : ByteArray) (bad : Bool) (n : Int) (w : World) (h : Rd 67 b s bad w) :
    Calls Try.prog 32 #[.pointer (some ⟨b, 0, none⟩), .int .i64 n] w fun e w' => e = .returned (.string (txt s bad n)) ∧ Rd 67 b (lft s bad n) (no s bad n) w' ∧ Kept b w w' := by
  have c0 : w.cell? ⟨b, 0, none⟩ = some (.string s) := by rw [Lib.cell_of_heap h]; rfl
  have c1 : w.cell? ⟨b, 1, none⟩ = some (.bool bad) := by rw [Lib.cell_of_heap h]; rfl
  have f0 : w.frozen? ⟨b, 0, none⟩ = false := Lib.frozen_of_heap h 0
  have f1 : w.frozen? ⟨b, 1, none⟩ = false := Lib.frozen_of_heap h 1
  have H := Lib.hid h
  clear h
  by_cases hn : no s bad n = true
  · have HN := Lib.hid hn
    have HE : Hid (txt s bad n = .empty ∧ lft s bad n = s) := by
      unfold txt lft
      rw [hn]
      exact ⟨rfl, rfl⟩
    unfold no at hn
    simp only [Bool.or_eq_true, decide_eq_true_eq] at hn
    cases bad with
    | true =>
      clear hn
      go_enter Try.func32, Try.ntmps32
      go_wp2
      go_ret
      rw [HE.out.1, HE.out.2, HN.out]
      exact ⟨rfl, H.out.set1 _, .set _ _ _ _⟩
    | false =>
      by_cases h1 : n < 0
      · clear hn
        go_enter Try.func32, Try.ntmps32
        go_wp2
        go_ret
        rw [HE.out.1, HE.out.2, HN.out]
        exact ⟨rfl, H.out.set1 _, .set _ _ _ _⟩
      · have h2 : (s.size : Int) < n := by
          rcases hn with (hn | hn) | hn
          · cases hn
          · exact absurd hn h1
          · exact hn
        clear hn
        go_enter Try.func32, Try.ntmps32
        go_wp2
        go_ret
        rw [HE.out.1, HE.out.2, HN.out]
        exact ⟨rfl, H.out.set1 _, .set _ _ _ _⟩
  · rw [Bool.not_eq_true] at hn
    have HN := Lib.hid hn
    have HE : Hid (txt s bad n = s.extract 0 n.toNat ∧ lft s bad n = s.extract n.toNat s.size) := by
      unfold txt lft
      rw [hn]
      exact ⟨rfl, rfl⟩
    unfold no at hn
    simp only [Bool.or_eq_false_iff, decide_eq_false_iff_not] at hn
    obtain ⟨⟨rfl, h1⟩, h2⟩ := hn
    have h3 : 0 ≤ n := by omega
    have h4 : n ≤ s.size := by omega
    go_enter Try.func32, Try.ntmps32
    go_wp2
    go_ret
    rw [HE.out.1, HE.out.2, HN.out]
    exact ⟨rfl, H.out.set0 _, .set _ _ _ _⟩

set_option maxHeartbeats 1000000 in
theorem NumberR_any (b : Nat) (s : ByteArray) (bad : Bool) (n : Int) (hs : s.size ≤ maxLen) (w : World) (h : Rd 67 b s bad w) :
    Calls Try.prog 31 #[.pointer (some ⟨b, 0, none⟩), .int .i64 n] w fun e w' => e = .returned (.int .u64 (num s bad n)) ∧ Rd 67 b (lft s (bad || decide (8 < n)) n) (no s (bad || decide (8 < n)) n) w' ∧ Kept b w w' := by
  have c0 : w.cell? ⟨b, 0, none⟩ = some (.string s) := by rw [Lib.cell_of_heap h]; rfl
  have c1 : w.cell? ⟨b, 1, none⟩ = some (.bool bad) := by rw [Lib.cell_of_heap h]; rfl
  have f1 : w.frozen? ⟨b, 1, none⟩ = false := Lib.frozen_of_heap h 1
  have H := Lib.hid h
  clear h
  unfold num
  by_cases h8 : 8 < n
  · have e : (bad || decide (8 < n)) = true := by simp [h8]
    rw [e]
    clear e
    have HE : Hid (Rc2.get (txt s true n).data.toList = 0 ∧ lft s true n = s ∧ no s true n = true) := ⟨rfl, rfl, rfl⟩
    clear hs
    go_enter Try.func31, Try.ntmps31
    go_wp2
    go_ret
    rw [HE.out.1, HE.out.2.1, HE.out.2.2]
    exact ⟨rfl, H.out.set1 _, .set _ _ _ _⟩
  · have e : (bad || decide (8 < n)) = bad := by simp [h8]
    rw [e]
    clear e
    have HT := Lib.hid (TextR_any b s bad n w H.out)
    have HG := Lib.hid (GetR_any (txt s bad n) (txt_le s bad n hs))
    clear hs
    go_enter Try.func31, Try.ntmps31
    go_wp2_with (first | (go_at_call 32; refine (HT.out).mono ?_; rintro e w1 ⟨rfl, hr, hk⟩) | (go_at_call 57; refine (HG.out _).mono ?_; rintro e w2 ⟨rfl, rfl⟩))
    go_ret
    exact ⟨rfl, hr, hk⟩

theorem NumberD_crew {U : Nat → Prop} {w0 w : World} {l : List (Thing 0)} (h : Crew U w0 l w) (i : Nat) {b : Nat} {s : ByteArray} {bad : Bool} (hi : l[i]? = some (blkT b #[.string s, .bool bad] 67)) (hs : s.size ≤ 1000000) (n : Int) (hn : n ≤ 8) :
    Calls Try.prog 31 #[.pointer (some ⟨b, 0, none⟩), .int .i64 n] w fun e w' => e = .returned (.int .u64 (num s bad n)) ∧ Crew U w0 (l.set i (blkT b #[.string (lft s bad n), .bool (no s bad n)] 67)) w' := by
  refine h.turn i hi ?_
  rintro O ⟨ho, rfl⟩ _
  refine (NumberR_any b s bad n (by unfold maxLen; omega) w ho).mono ?_
  rintro e w' ⟨he, hr, hk⟩
  have e2 : (bad || decide (8 < n)) = bad := by
    have : ¬ 8 < n := by omega
    simp [this]
  rw [e2] at hr
  exact ⟨he, hk.turns hr⟩

theorem TextD_crew {U : Nat → Prop} {w0 w : World} {l : List (Thing 0)} (h : Crew U w0 l w) (i : Nat) {b : Nat} {s : ByteArray} {bad : Bool} (hi : l[i]? = some (blkT b #[.string s, .bool bad] 67)) (n : Int) :
    Calls Try.prog 32 #[.pointer (some ⟨b, 0, none⟩), .int .i64 n] w fun e w' => e = .returned (.string (txt s bad n)) ∧ Crew U w0 (l.set i (blkT b #[.string (lft s bad n), .bool (no s bad n)] 67)) w' := by
  refine h.turn i hi ?_
  rintro O ⟨ho, rfl⟩ _
  refine (TextR_any b s bad n w ho).mono ?_
  rintro e w' ⟨he, hr, hk⟩
  exact ⟨he, hk.turns hr⟩

end Go.Proofs.Yteellffkjjllgaa
