/-
  Where a text belongs in a row that rises, as the library's search tells it; a row of texts as one. Conditions: as each theorem states them.
-/
import Derived.Test.YteellffkjjllgaaQDrSl
namespace Go.Rc7
open Go.Rc5

/-- Where a text belongs in a row. -/
structure Belongs (S : List ByteArray) (v : ByteArray) (k : Nat) : Prop where
  le : k ≤ S.length
  below : ∀ j, j < k → lt (S.getD j .empty) v = true
  above : ∀ j, k ≤ j → j < S.length → lt (S.getD j .empty) v = false

/-- The place where a text belongs, and whether it stands there. -/
def FoundAt (S : List ByteArray) (v : ByteArray) (n : Nat) (w : World) (e : Ending) (w' : World) : Prop :=
  (∃ (k : Nat) (b : Bool), e = .returned (.tuple #[.int .i64 k, .bool b]) ∧ Belongs S v k ∧ (b = true ↔ k < n ∧ S.getD k .empty = v)) ∧ w' = w

theorem below_all {S : List ByteArray} (h : Rises S) {v : ByteArray} {k : Nat} (hk : k < S.length) (hl : lt (S.getD k .empty) v = true) : ∀ j, j < k + 1 → lt (S.getD j .empty) v = true := by
  intro j hj
  by_cases e : j = k
  · subst e
    exact hl
  · exact lt_trans (rises_at h (i := j) (j := k) (by omega) hk) hl

theorem above_all {S : List ByteArray} (h : Rises S) {v : ByteArray} {k : Nat} (hl : lt (S.getD k .empty) v = false) : ∀ j, k ≤ j → j < S.length → lt (S.getD j .empty) v = false := by
  intro j hj hjl
  by_cases e : j = k
  · subst e
    exact hl
  · cases hb : lt (S.getD j .empty) v with
    | false => rfl
    | true =>
      have := lt_trans (rises_at h (i := k) (j := j) (by omega) hjl) hb
      rw [hl] at this
      cases this

theorem join_empty (l : List (List UInt8)) : Lib.join l [] = l.flatten := by
  induction l with
  | nil => rfl
  | cons x r ih =>
    cases r with
    | nil => simp [Lib.join]
    | cons y q =>
      simp [Lib.join] at ih ⊢
      exact ih

end Go.Rc7
namespace Go.Proofs.Yteellffkjjllgaa
open Go.RowKit Go.Rc5 Go.Rc6 Go.Rc7

theorem neq_self (s : ByteArray) : (s.toList != s.toList) = false := by simp

set_option maxHeartbeats 1000000 in
theorem nan_any (s : ByteArray) (w : World) : Calls Try.prog 64 #[.string s] w fun e w' => e = .returned (.bool false) ∧ w' = w := by
  have hq := neq_self s
  go_enter Try.func64, Try.ntmps64
  go_wp2
  go_ret
  exact ⟨by simp, rfl⟩

set_option maxHeartbeats 1000000 in
theorem nanC_any (s : ByteArray) (w : World) : Calls Try.prog 80 #[.string s] w fun e w' => e = .returned (.bool false) ∧ w' = w := by
  have hq := neq_self s
  go_enter Try.func80, Try.ntmps80
  go_wp2
  go_ret
  exact ⟨by simp, rfl⟩

set_option maxHeartbeats 1000000 in
theorem Less_any (x y : ByteArray) (w : World) : Calls Try.prog 63 #[.string x, .string y] w fun e w' => e = .returned (.bool (lt x y)) ∧ w' = w := by
  have HD : Hid (Op.bytesLess x.toList y.toList = lt x y) := rfl
  go_enter Try.func63, Try.ntmps63
  go_wp2_with (go_at_call 80; refine (nanC_any _ _).mono ?_; rintro e w1 ⟨rfl, rfl⟩)
  go_ret
  exact ⟨rfl, rfl⟩

set_option maxRecDepth 100000 in
set_option maxHeartbeats 4000000 in
theorem Search_any (S : List ByteArray) (v : ByteArray) (a : Option Addr) (n c : Nat) (w : World) (h : StrsAt w a S) (hl : S.length = n) (hn : n ≤ 1000000) (hr : Rises S) :
    Calls Try.prog 40 #[.slice a n c, .string v] w (FoundAt S v n w) := by
  have HS := Lib.hid h
  have HL := Lib.hid hl
  have HR := Lib.hid hr
  clear h hl hr
  go_enter Try.func40, Try.ntmps40
  go_wp2
  go_loop [7, 8, 9] (fun i j _ => ∃ p q : Nat, i = .int .i64 p ∧ j = .int .i64 q ∧ p ≤ q ∧ q ≤ n ∧ Hid ((∀ j, j < p → lt (S.getD j .empty) v = true) ∧ ∀ j, q ≤ j → j < S.length → lt (S.getD j .empty) v = false)) (fun i j _ => (intOf j - intOf i).toNat)
  case atStart => exact ⟨0, n, rfl, rfl, Nat.zero_le _, Nat.le_refl _, fun j hj => absurd hj (Nat.not_lt_zero _), fun j hj hl => by rw [HL.out] at hl; omega⟩
  case round =>
    obtain ⟨p, q, rfl, rfl, hpq, hq, HI⟩ := hrel
    by_cases hlt : p < q
    · have hltI : (p : Int) < q := by omega
      obtain ⟨m, hm⟩ : ∃ m : Nat, (p + q) / 2 = m := ⟨_, rfl⟩
      have hm1 : p ≤ m := by omega
      have hm2 : m < q := by omega
      have hw : IntKind.u64.wrap ((p : Int) + q) = (p : Int) + q := by rw [IntKind.wrap_u64]; omega
      have hmm : ((p : Int) + q) / 2 = (m : Int) := by omega
      obtain ⟨x, rfl, c0⟩ := HS.out m (by rw [HL.out]; omega)
      have HA := Lib.hid (fun hb => below_all HR.out (v := v) (k := m) (by rw [HL.out]; omega) hb)
      have HB := Lib.hid (fun hb => above_all HR.out (v := v) (k := m) hb)
      generalize S.getD m .empty = y at *
      cases hb : lt y v with
      | true =>
        have hI : Hid ((∀ j, j < m + 1 → lt (S.getD j .empty) v = true) ∧ ∀ j, q ≤ j → j < S.length → lt (S.getD j .empty) v = false) := ⟨HA.out hb, HI.out.2⟩
        have HLs := Less_any y v
        rw [hb] at HLs
        have HG := Lib.hid HLs
        clear hb HA HB HLs HI
        go_wp2_with (go_at_call 63; refine (HG.out _).mono ?_; rintro e w1 ⟨rfl, rfl⟩)
        exact ⟨⟨m + 1, q, by go_num, rfl, by omega, by omega, hI⟩, by simp [intOf]; omega⟩
      | false =>
        have hI : Hid ((∀ j, j < p → lt (S.getD j .empty) v = true) ∧ ∀ j, m ≤ j → j < S.length → lt (S.getD j .empty) v = false) := ⟨HI.out.1, HB.out hb⟩
        have HLs := Less_any y v
        rw [hb] at HLs
        have HG := Lib.hid HLs
        clear hb HA HB HLs HI
        go_wp2_with (go_at_call 63; refine (HG.out _).mono ?_; rintro e w1 ⟨rfl, rfl⟩)
        exact ⟨⟨p, m, rfl, rfl, by omega, by omega, hI⟩, by simp [intOf]; omega⟩
    · obtain rfl : p = q := by omega
      have hltI : ¬ (p : Int) < p := by omega
      have HBel : Hid (Belongs S v p) := ⟨by rw [HL.out]; exact hq, HI.out.1, HI.out.2⟩
      clear HI
      by_cases hp : p < n
      · have hpI : (p : Int) < n := by omega
        obtain ⟨x, rfl, c0⟩ := HS.out p (by rw [HL.out]; exact hp)
        have HE := Lib.hid (eq_beq (S.getD p .empty) v)
        by_cases he : S.getD p .empty = v
        · have hb : ((S.getD p .empty).toList == v.toList) = true := by rw [HE.out]; exact decide_eq_true he
          have HF : Hid (p < n ∧ S.getD p .empty = v) := ⟨hp, he⟩
          clear he HE
          generalize S.getD p .empty = y at c0 hb
          go_wp2_with (go_at_call 64; refine (nan_any _ _).mono ?_; rintro e w1 ⟨rfl, rfl⟩)
          go_ret2
          exact ⟨⟨p, true, rfl, HBel.out, ⟨fun _ => HF.out, fun _ => rfl⟩⟩, rfl⟩
        · have hb : ((S.getD p .empty).toList == v.toList) = false := by rw [HE.out]; exact decide_eq_false he
          have HF : Hid ((false = true) ↔ p < n ∧ S.getD p .empty = v) := ⟨fun h => (by cases h), fun h => (he h.2).elim⟩
          clear he HE
          generalize S.getD p .empty = y at c0 hb
          go_wp2_with (go_at_call 64; refine (nan_any _ _).mono ?_; rintro e w1 ⟨rfl, rfl⟩)
          go_ret2
          exact ⟨⟨p, false, rfl, HBel.out, HF.out⟩, rfl⟩
      · have hpI : ¬ (p : Int) < n := by omega
        have HF : Hid ((false = true) ↔ p < n ∧ S.getD p .empty = v) := ⟨fun h => (by cases h), fun h => (hp h.1).elim⟩
        go_wp2
        go_ret2
        exact ⟨⟨p, false, rfl, HBel.out, HF.out⟩, rfl⟩

theorem Join_any (S : List ByteArray) (a : Option Addr) (n c : Nat) (w : World) (h : StrsAt w a S) (hl : S.length = n) (ha : ∀ x, a = some x → ∃ g, x = ⟨g, 0, none⟩ ∧ n ≤ c) (hn : n ≤ 1000000) (hlen : (S.map fun s => s.data.toList).flatten.length ≤ 1000000) :
    Calls Try.prog 48 #[.slice a n c, .string ⟨#[]⟩] w fun e w' => e = .returned (.string ⟨(S.map fun s => s.data.toList).flatten.toArray⟩) ∧ Below w.heap.size w w' := by
  subst hl
  cases S with
  | nil =>
    refine (Try.strings_Join_none a c ⟨#[]⟩ w).mono ?_
    rintro e w' ⟨rfl, rfl⟩
    exact ⟨rfl, Below.refl _ _⟩
  | cons s r =>
    obtain ⟨x, rfl, c0⟩ := h 0 (by simp)
    obtain ⟨g, rfl, hc⟩ := ha _ rfl
    have hb := row_block c0
    have he : Lib.join ((s :: r).map (·.data.toList)) (⟨#[]⟩ : ByteArray).data.toList = ((s :: r).map fun s => s.data.toList).flatten := join_empty _
    have := Try.strings_Join g 0 c (s :: r) ⟨#[]⟩ w (fun j y hy => by
      obtain ⟨x, hx, c1⟩ := h j (List.getElem?_eq_some_iff.1 hy).1
      cases hx
      rw [add_own] at c1
      rw [Nat.zero_add, c1, List.getD_eq_getElem?_getD, hy]
      rfl) hb (by omega) hc (by rw [he]; omega)
    rw [he] at this
    exact this

end Go.Proofs.Yteellffkjjllgaa
