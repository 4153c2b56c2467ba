/-
  What le.Add, le.Mul and the document's own Add and Mul answer. Condition: the numbers are below 2^64.
-/
import Derived.Test.YtodidacblnhmgaaShelf
import Derived.Test.YtodidacblnhmgaaChecked
import Derived.WalkKit
import Derived.WalkSpells
import Derived.Lib.Hide
import Derived.Laws.Externs
namespace Go.Proofs.Ytodidacblnhmgaa
open Go.RowKit

/-- A number and true, if it is below 2^64; else 0 and false. -/
def fits (n : Nat) : Value := if n < 18446744073709551616 then .tuple #[.int .u64 (n : Int), .bool true] else .tuple #[.int .u64 0, .bool false]

theorem add64 (x y : Nat) (w : World) :
    (callFunc 25 #[.int .u64 x, .int .u64 y, .int .u64 0]).run Try.prog w =
      .ok (.value (.tuple #[.int .u64 (((x + y) % 18446744073709551616 : Nat) : Int), .int .u64 (((x + y) / 18446744073709551616 : Nat) : Int)])) w := by
  rw [run_callFunc_extern Try.func25 (by kernel_rfl) (by kernel_rfl) (by kernel_rfl) (e := add64Entry) (by kernel_rfl), run_add64 x y 0 (by omega) (by omega) (by omega) (by omega)]
  simp only [Result.andThen]
  congr 5 <;> omega

theorem within_any (l o : Nat) (w : World) :
    Calls Try.prog 26 #[.int .u64 l, .int .u64 o] w fun e w' => e = .returned (if o = 0 then .tuple #[.int .u64 (l : Int), .bool true] else .tuple #[.int .u64 0, .bool false]) ∧ w = w' := by
  by_cases h : o = 0
  · subst h
    go_enter Try.func26, Try.ntmps26
    go_wp2
    go_ret2
    exact ⟨rfl, rfl⟩
  · rw [if_neg h]
    have h' : ((o : Int) == 0) = false := by simpa using h
    have h'' : ((o : Int) != 0) = true := by simpa using h
    have h3 : (o : Int) ≠ 0 := by omega
    clear h
    go_enter Try.func26, Try.ntmps26
    go_wp2
    go_ret2
    exact ⟨rfl, rfl⟩

theorem fits_of (n : Nat) : (if n / 18446744073709551616 = 0 then Value.tuple #[.int .u64 ((n % 18446744073709551616 : Nat) : Int), .bool true] else .tuple #[.int .u64 0, .bool false]) = fits n := by
  unfold fits
  by_cases h : n < 18446744073709551616
  · rw [if_pos (by omega), if_pos h, Nat.mod_eq_of_lt h]
  · rw [if_neg (by omega), if_neg h]

theorem fits_tuple (n : Nat) : ∃ (x : Nat) (b : Bool), fits n = .tuple #[.int .u64 (x : Int), .bool b] := by
  unfold fits
  split
  · exact ⟨_, _, rfl⟩
  · exact ⟨0, _, rfl⟩

theorem fits_if {n x : Nat} {b : Bool} (h : fits n = .tuple #[.int .u64 (x : Int), .bool b]) : b = true → x = n := by
  intro hb
  subst hb
  unfold fits at h
  split at h
  · simp only [Value.tuple.injEq, Array.mk.injEq, List.cons.injEq, Value.int.injEq] at h
    have := h.1.2
    omega
  · simp at h

set_option maxHeartbeats 1000000 in
theorem Add_any (x y : Nat) (w : World) :
    Calls Try.prog 21 #[.int .u64 x, .int .u64 y] w fun e w' => e = .returned (fits (x + y)) ∧ w = w' := by
  have ha := add64 x y
  have hf := fits_of (x + y)
  have hw := within_any ((x + y) % 18446744073709551616) ((x + y) / 18446744073709551616)
  rw [hf] at hw
  clear hf
  obtain ⟨r, b, hr⟩ := fits_tuple (x + y)
  rw [hr] at hw ⊢
  have HW := Lib.hid hw
  clear hr hw
  go_enter Try.func21, Try.ntmps21
  go_wp2_with (go_at_call 26; refine (HW.out _).mono ?_; rintro e w' ⟨rfl, rfl⟩)
  go_ret2
  exact ⟨rfl, rfl⟩

set_option maxHeartbeats 1000000 in
theorem Mul_any (x y : Nat) (hx : x < 18446744073709551616) (hy : y < 18446744073709551616) (w : World) :
    Calls Try.prog 23 #[.int .u64 x, .int .u64 y] w fun e w' => e = .returned (fits (x * y)) ∧ w = w' := by
  have HM := Lib.hid (Try.bits_Mul64 x y hx hy)
  have hf := fits_of (x * y)
  have hw := within_any ((x * y) % 18446744073709551616) ((x * y) / 18446744073709551616)
  rw [hf] at hw
  clear hf
  obtain ⟨r, b, hr⟩ := fits_tuple (x * y)
  rw [hr] at hw ⊢
  have HW := Lib.hid hw
  clear hr hw hx hy
  go_enter Try.func23, Try.ntmps23
  go_wp2_with (first | (go_at_call 27; refine (HM.out _).mono ?_; rintro e w' ⟨rfl, rfl⟩) | (go_at_call 26; refine (HW.out _).mono ?_; rintro e w' ⟨rfl, rfl⟩))
  go_ret2
  exact ⟨rfl, rfl⟩

set_option maxHeartbeats 1000000 in
theorem AddR_any (x y : Nat) (hx : x < 18446744073709551616) (hy : y < 18446744073709551616) (w : World) :
    Calls Try.prog 22 #[.int .u64 x, .int .u64 y] w fun e w' => e = .returned (fits (x + y)) ∧ w = w' := by
  by_cases h : x + y < 18446744073709551616
  · have e : fits (x + y) = .tuple #[.int .u64 ((x : Int) + y), .bool true] := by unfold fits; rw [if_pos h]; simp
    rw [e]
    clear e
    have h1 : ¬ 18446744073709551615 - (x : Int) < y := by omega
    have h2 : 0 ≤ 18446744073709551615 - (x : Int) := by omega
    have h3 : (x : Int) + y < 18446744073709551616 := by omega
    go_enter Try.func22, Try.ntmps22
    go_wp2
    go_ret2
    exact ⟨rfl, rfl⟩
  · have e : fits (x + y) = .tuple #[.int .u64 0, .bool false] := by unfold fits; rw [if_neg h]
    rw [e]
    clear e
    have h1 : 18446744073709551615 - (x : Int) < y := by omega
    have h2 : 0 ≤ 18446744073709551615 - (x : Int) := by omega
    go_enter Try.func22, Try.ntmps22
    go_wp2
    go_ret2
    exact ⟨rfl, rfl⟩

theorem div_over (x y : Nat) (hx : 0 < x) : (18446744073709551615 / (x : Int) < (y : Int)) ↔ 18446744073709551616 ≤ x * y := by
  have h : (18446744073709551615 / (x : Int)) = ((18446744073709551615 / x : Nat) : Int) := by rw [Int.natCast_ediv]; rfl
  rw [h, Int.ofNat_lt, Nat.div_lt_iff_lt_mul hx, Nat.mul_comm]
  omega

set_option maxHeartbeats 1000000 in
theorem MulR_any (x y : Nat) (_hy : y < 18446744073709551616) (w : World) :
    Calls Try.prog 24 #[.int .u64 x, .int .u64 y] w fun e w' => e = .returned (fits (x * y)) ∧ w = w' := by
  by_cases h0 : x = 0
  · subst h0
    have e : fits (0 * y) = .tuple #[.int .u64 0, .bool true] := by unfold fits; rw [if_pos (by omega)]; simp
    rw [e]
    clear e
    go_enter Try.func24, Try.ntmps24
    go_wp2
    go_ret2
    exact ⟨rfl, rfl⟩
  · have h1 : 0 < (x : Int) := by omega
    have hd := div_over x y (by omega)
    by_cases h : x * y < 18446744073709551616
    · have e : fits (x * y) = .tuple #[.int .u64 ((x : Int) * y), .bool true] := by unfold fits; rw [if_pos h]; simp
      rw [e]
      clear e
      have h2 : ¬ (18446744073709551615 / (x : Int) < (y : Int)) := by rw [hd]; omega
      have h3 : IntKind.u64.wrap ((x : Int) * y) = (x : Int) * y := by rw [← Int.natCast_mul, IntKind.wrap_u64]; omega
      clear hd h
      go_enter Try.func24, Try.ntmps24
      go_wp2
      go_ret2
      exact ⟨rfl, rfl⟩
    · have e : fits (x * y) = .tuple #[.int .u64 0, .bool false] := by unfold fits; rw [if_neg h]
      rw [e]
      clear e
      have h2 : (18446744073709551615 / (x : Int) < (y : Int)) := by rw [hd]; omega
      clear hd h
      go_enter Try.func24, Try.ntmps24
      go_wp2
      go_ret2
      exact ⟨rfl, rfl⟩

end Go.Proofs.Ytodidacblnhmgaa
