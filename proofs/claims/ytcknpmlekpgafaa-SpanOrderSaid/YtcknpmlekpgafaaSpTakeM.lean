/-
  What is taken of a row with gaps, and what is left, span by span. Conditions: as each theorem states them.
-/
import Derived.Test.YtcknpmlekpgafaaSpRight
namespace Go.Rc5

/-- The n lowest sectors of a row, and the others, span by span. -/
def takeL : List Sp → Nat → List Sp × List Sp
  | [], _ => ([], [])
  | s :: r, n => if n = 0 then ([], s :: r) else if s.2 ≤ n then (s :: (takeL r (n - s.2)).1, (takeL r (n - s.2)).2) else ([(s.1, n)], (s.1 + n, s.2 - n) :: r)

theorem cnt_zero {f : Nat → Bool} {n : Nat} (h : ∀ y, y < n → f y = false) : cnt f n = 0 := by
  induction n with
  | zero => rfl
  | succ n ih => rw [cnt, ih (fun y hy => h y (by omega)), h n (by omega)]; rfl

theorem cnt_cons {lo : Nat} {s : Sp} {r : List Sp} (h : Ch lo (s :: r)) (x : Nat) : cnt (memB (s :: r)) x = (min x (s.1 + s.2) - s.1) + cnt (memB r) x := by
  rw [cnt_congr (g := fun y => inB s y || memB r y) (fun y _ => memB_cons s r y), cnt_or, cnt_span]
  intro y _ hy
  rw [Bool.eq_false_iff]
  intro e
  have h1 := (inB_iff _ _).1 hy
  have h2 := h.2.2.ge e
  omega

theorem takeL_spec {lo : Nat} {l : List Sp} (h : Ch lo l) (n : Nat) : Ch lo (takeL l n).1 ∧ Ch lo (takeL l n).2 ∧
    ∀ x, memB (takeL l n).1 x = (memB l x && decide (cnt (memB l) x < n)) ∧ memB (takeL l n).2 x = (memB l x && !decide (cnt (memB l) x < n)) := by
  induction l generalizing lo n with
  | nil => exact ⟨trivial, trivial, fun x => ⟨rfl, rfl⟩⟩
  | cons s r ih =>
    have hs := h.2.1
    have far : ∀ x, memB r x = true → s.1 + s.2 + 1 ≤ x := fun x hx => h.2.2.ge hx
    have near : ∀ x, x ≤ s.1 + s.2 → memB r x = false := fun x hx => by
      rw [Bool.eq_false_iff]
      intro e
      have := far x e
      omega
    have cin : ∀ x, x ≤ s.1 + s.2 → cnt (memB (s :: r)) x = x - s.1 := fun x hx => by
      rw [cnt_cons h, cnt_zero (fun y hy => near y (by omega))]
      omega
    have cout : ∀ x, s.1 + s.2 ≤ x → cnt (memB (s :: r)) x = s.2 + cnt (memB r) x := fun x hx => by
      rw [cnt_cons h]
      omega
    unfold takeL
    by_cases h0 : n = 0
    · subst h0
      rw [if_pos rfl]
      refine ⟨trivial, h, fun x => ⟨?_, ?_⟩⟩
      · show memB [] x = _
        rw [memB_nil]
        simp
      · show memB (s :: r) x = _
        simp
    · rw [if_neg h0]
      by_cases h1 : s.2 ≤ n
      · rw [if_pos h1]
        obtain ⟨i1, i2, i3⟩ := ih h.2.2 (n - s.2)
        refine ⟨⟨h.1, hs, i1⟩, i2.mono (by have := h.1; omega), fun x => ⟨?_, ?_⟩⟩
        · show memB (s :: _) x = _
          rw [memB_cons, memB_cons, (i3 x).1]
          by_cases hx : inB s x = true
          · have hx' := (inB_iff _ _).1 hx
            rw [hx, cin x (by omega)]
            have : decide (x - s.1 < n) = true := decide_eq_true (by omega)
            rw [this]
            rfl
          · have hx' : inB s x = false := by simpa using hx
            rw [hx', Bool.false_or, Bool.false_or]
            by_cases hm : memB r x = true
            · have hf := far x hm
              rw [hm, cout x (by omega)]
              show (true && _) = (true && _)
              congr 1
              rw [decide_eq_decide]
              omega
            · have hm' : memB r x = false := by simpa using hm
              rw [hm']
              rfl
        · show memB _ x = _
          rw [memB_cons, (i3 x).2]
          by_cases hx : inB s x = true
          · have hx' := (inB_iff _ _).1 hx
            rw [hx, cin x (by omega), near x (by omega)]
            have : decide (x - s.1 < n) = true := decide_eq_true (by omega)
            rw [this]
            rfl
          · have hx' : inB s x = false := by simpa using hx
            rw [hx', Bool.false_or]
            by_cases hm : memB r x = true
            · have hf := far x hm
              rw [hm, cout x (by omega)]
              show (true && _) = (true && _)
              congr 2
              rw [decide_eq_decide]
              omega
            · have hm' : memB r x = false := by simpa using hm
              rw [hm']
              rfl
      · rw [if_neg h1]
        have hlo := h.1
        refine ⟨⟨h.1, by show 1 ≤ n; omega, trivial⟩, ⟨by show lo ≤ s.1 + n; omega, by show 1 ≤ s.2 - n; omega, ?_⟩, fun x => ⟨?_, ?_⟩⟩
        · show Ch (s.1 + n + (s.2 - n) + 1) r
          rw [show s.1 + n + (s.2 - n) + 1 = s.1 + s.2 + 1 by omega]
          exact h.2.2
        · show memB [(s.1, n)] x = _
          rw [memB_cons, memB_nil, Bool.or_false, memB_cons]
          by_cases hx : inB s x = true
          · have hx' := (inB_iff _ _).1 hx
            rw [hx, cin x (by omega), Bool.true_or, Bool.true_and, Bool.eq_iff_iff, inB_iff, decide_eq_true_eq]
            dsimp only
            omega
          · have hx2 : ¬ (s.1 ≤ x ∧ x < s.1 + s.2) := fun e => hx ((inB_iff _ _).2 e)
            have hx' : inB s x = false := by simpa using hx
            have h3 : inB (s.1, n) x = false := by
              rw [Bool.eq_false_iff]
              intro e
              have := (inB_iff _ _).1 e
              dsimp only at this
              omega
            rw [hx', h3, Bool.false_or]
            by_cases hm : memB r x = true
            · have hf := far x hm
              rw [hm, cout x (by omega)]
              have : decide (s.2 + cnt (memB r) x < n) = false := decide_eq_false (by omega)
              rw [this]
              rfl
            · have hm' : memB r x = false := by simpa using hm
              rw [hm']
              rfl
        · show memB ((s.1 + n, s.2 - n) :: r) x = _
          rw [memB_cons, memB_cons]
          by_cases hx : inB s x = true
          · have hx' := (inB_iff _ _).1 hx
            rw [hx, cin x (by omega), near x (by omega), Bool.or_false, Bool.or_false, Bool.true_and, Bool.eq_iff_iff, inB_iff]
            simp
            omega
          · have hx2 : ¬ (s.1 ≤ x ∧ x < s.1 + s.2) := fun e => hx ((inB_iff _ _).2 e)
            have hx' : inB s x = false := by simpa using hx
            have h3 : inB (s.1 + n, s.2 - n) x = false := by
              rw [Bool.eq_false_iff]
              intro e
              have := (inB_iff _ _).1 e
              dsimp only at this
              omega
            rw [hx', h3, Bool.false_or]
            by_cases hm : memB r x = true
            · have hf := far x hm
              rw [hm, cout x (by omega)]
              have : decide (s.2 + cnt (memB r) x < n) = false := decide_eq_false (by omega)
              rw [this]
              rfl
            · have hm' : memB r x = false := by simpa using hm
              rw [hm']
              rfl

theorem rows_one {N : List Sp} {lo m : Nat} (h : Ch lo N) (hm : ∀ s ∈ N, s.1 + s.2 ≤ m) (n : Nat) : rows (oneB N n) m = (takeL N n).1 := by
  obtain ⟨h1, _, h3⟩ := takeL_spec h n
  rw [← rows_mem (n := m) h1]
  · exact rows_congr fun x _ => ((h3 x).1).symm
  · intro x hx
    rw [(h3 x).1, Bool.and_eq_true, memB_iff] at hx
    obtain ⟨⟨s, hs, a, b⟩, _⟩ := hx
    have := hm s hs
    omega

theorem rows_two {N : List Sp} {lo m : Nat} (h : Ch lo N) (hm : ∀ s ∈ N, s.1 + s.2 ≤ m) (n : Nat) : rows (twoB N n) m = (takeL N n).2 := by
  obtain ⟨_, h2, h3⟩ := takeL_spec h n
  rw [← rows_mem (n := m) h2]
  · exact rows_congr fun x _ => ((h3 x).2).symm
  · intro x hx
    rw [(h3 x).2, Bool.and_eq_true, memB_iff] at hx
    obtain ⟨⟨s, hs, a, b⟩, _⟩ := hx
    have := hm s hs
    omega

theorem takeL_total (l : List Sp) (n : Nat) (h : n ≤ total l) : total (takeL l n).1 = n ∧ total (takeL l n).2 = total l - n := by
  induction l generalizing n with
  | nil =>
    rw [total_nil] at h
    obtain rfl : n = 0 := by omega
    exact ⟨rfl, rfl⟩
  | cons s r ih =>
    rw [total_cons] at h
    unfold takeL
    by_cases h0 : n = 0
    · subst h0
      rw [if_pos rfl]
      exact ⟨rfl, rfl⟩
    · rw [if_neg h0]
      by_cases h1 : s.2 ≤ n
      · rw [if_pos h1]
        obtain ⟨i1, i2⟩ := ih (n - s.2) (by omega)
        refine ⟨?_, ?_⟩
        · show total (s :: _) = n
          rw [total_cons, i1]
          omega
        · show total _ = _
          rw [i2, total_cons]
          omega
      · rw [if_neg h1]
        refine ⟨?_, ?_⟩
        · show total [(s.1, n)] = n
          rw [total_cons, total_nil]
          rfl
        · show total ((s.1 + n, s.2 - n) :: r) = _
          rw [total_cons, total_cons]
          show s.2 - n + total r = s.2 + total r - n
          omega

end Go.Rc5
