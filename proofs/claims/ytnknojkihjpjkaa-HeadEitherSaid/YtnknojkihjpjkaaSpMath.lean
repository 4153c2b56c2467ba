/-
  Rows of spans as plain mathematics: which sectors they have, rows with gaps between, how many sectors, and that such a row is known by its sectors. Conditions: as each theorem states them.
-/
import Derived.Below
namespace Go.Rc5

abbrev Sp := Nat × Nat

/-- Is x a sector of the span? -/
def inB (s : Sp) (x : Nat) : Bool := decide (s.1 ≤ x) && decide (x < s.1 + s.2)

theorem inB_iff (s : Sp) (x : Nat) : inB s x = true ↔ s.1 ≤ x ∧ x < s.1 + s.2 := by simp [inB]

def memB (l : List Sp) (x : Nat) : Bool := l.any fun s => inB s x

theorem memB_nil (x : Nat) : memB [] x = false := rfl
theorem memB_cons (s : Sp) (l : List Sp) (x : Nat) : memB (s :: l) x = (inB s x || memB l x) := by simp [memB]
theorem memB_append (l l' : List Sp) (x : Nat) : memB (l ++ l') x = (memB l x || memB l' x) := by simp [memB]
theorem memB_iff (l : List Sp) (x : Nat) : memB l x = true ↔ ∃ s ∈ l, s.1 ≤ x ∧ x < s.1 + s.2 := by simp [memB, inB_iff]

/-- A row with gaps between, none of it below lo. -/
def Ch : Nat → List Sp → Prop
  | _, [] => True
  | lo, s :: r => lo ≤ s.1 ∧ 1 ≤ s.2 ∧ Ch (s.1 + s.2 + 1) r

theorem Ch.mono {lo lo' : Nat} {l : List Sp} (h : Ch lo l) (hl : lo' ≤ lo) : Ch lo' l := by
  cases l with
  | nil => trivial
  | cons s r => exact ⟨Nat.le_trans hl h.1, h.2⟩

theorem Ch.ge {lo : Nat} {l : List Sp} (h : Ch lo l) {x : Nat} (hx : memB l x = true) : lo ≤ x := by
  induction l generalizing lo with
  | nil => cases hx
  | cons s r ih =>
    rw [memB_cons, Bool.or_eq_true, inB_iff] at hx
    rcases hx with hx | hx
    · have := h.1; omega
    · have := ih h.2.2 hx; have := h.1; omega

theorem Ch.unique {lo lo' : Nat} {l l' : List Sp} (h : Ch lo l) (h' : Ch lo' l') (he : ∀ x, memB l x = memB l' x) : l = l' := by
  induction l generalizing lo lo' l' with
  | nil =>
    cases l' with
    | nil => rfl
    | cons s r =>
      have := he s.1
      have hh := h'.2.1
      rw [memB_nil, memB_cons, (inB_iff s s.1).2 ⟨Nat.le_refl _, by omega⟩] at this
      cases this
  | cons s r ih =>
    cases l' with
    | nil =>
      have := he s.1
      have hh := h.2.1
      rw [memB_nil, memB_cons, (inB_iff s s.1).2 ⟨Nat.le_refl _, by omega⟩] at this
      cases this
    | cons t q =>
      have hs := h.2.1
      have ht := h'.2.1
      have ge1 : ∀ x, memB (s :: r) x = true → s.1 ≤ x := fun x hx => Ch.ge (l := s :: r) (lo := s.1) ⟨Nat.le_refl _, h.2⟩ hx
      have ge2 : ∀ x, memB (t :: q) x = true → t.1 ≤ x := fun x hx => Ch.ge (l := t :: q) (lo := t.1) ⟨Nat.le_refl _, h'.2⟩ hx
      have own1 : ∀ x, s.1 ≤ x → x < s.1 + s.2 → memB (s :: r) x = true := fun x a b => by rw [memB_cons, (inB_iff s x).2 ⟨a, b⟩]; rfl
      have own2 : ∀ x, t.1 ≤ x → x < t.1 + t.2 → memB (t :: q) x = true := fun x a b => by rw [memB_cons, (inB_iff t x).2 ⟨a, b⟩]; rfl
      have e1 : s.1 = t.1 := by
        have a := ge2 s.1 (by rw [← he]; exact own1 _ (Nat.le_refl _) (by omega))
        have b := ge1 t.1 (by rw [he]; exact own2 _ (Nat.le_refl _) (by omega))
        omega
      have far1 : ∀ x, memB r x = true → s.1 + s.2 + 1 ≤ x := fun x hx => h.2.2.ge hx
      have far2 : ∀ x, memB q x = true → t.1 + t.2 + 1 ≤ x := fun x hx => h'.2.2.ge hx
      have gap1 : memB (s :: r) (s.1 + s.2) = false := by
        rw [Bool.eq_false_iff]
        intro hx
        rw [memB_cons, Bool.or_eq_true, inB_iff] at hx
        rcases hx with hx | hx
        · omega
        · have := far1 _ hx; omega
      have gap2 : memB (t :: q) (t.1 + t.2) = false := by
        rw [Bool.eq_false_iff]
        intro hx
        rw [memB_cons, Bool.or_eq_true, inB_iff] at hx
        rcases hx with hx | hx
        · omega
        · have := far2 _ hx; omega
      have e2 : s.2 = t.2 := by
        by_cases a : s.2 < t.2
        · have := own2 (s.1 + s.2) (by omega) (by omega)
          rw [← he, gap1] at this
          cases this
        · by_cases b : t.2 < s.2
          · have := own1 (t.1 + t.2) (by omega) (by omega)
            rw [he, gap2] at this
            cases this
          · omega
      have est : s = t := Prod.ext e1 e2
      subst est
      have hr : r = q := by
        refine ih h.2.2 h'.2.2 (fun x => ?_)
        have hx := he x
        rw [memB_cons, memB_cons] at hx
        by_cases hi : inB s x = true
        · have hi' := (inB_iff s x).1 hi
          have n1 : memB r x = false := by rw [Bool.eq_false_iff]; intro e; have := far1 _ e; omega
          have n2 : memB q x = false := by rw [Bool.eq_false_iff]; intro e; have := far2 _ e; omega
          rw [n1, n2]
        · have hi' : inB s x = false := by simpa using hi
          rw [hi', Bool.false_or, Bool.false_or] at hx
          exact hx
      rw [hr]

theorem Ch.snoc {lo : Nat} {l : List Sp} (h : Ch lo l) {a m : Nat} (hlo : lo ≤ a) (hm : 1 ≤ m) (he : ∀ s ∈ l, s.1 + s.2 + 1 ≤ a) : Ch lo (l ++ [(a, m)]) := by
  induction l generalizing lo with
  | nil => exact ⟨hlo, hm, trivial⟩
  | cons s r ih => exact ⟨h.1, h.2.1, ih h.2.2 (he s List.mem_cons_self) (fun t ht => he t (List.mem_cons_of_mem _ ht))⟩

theorem Ch.grow {lo : Nat} {l : List Sp} {a m m' : Nat} (h : Ch lo (l ++ [(a, m)])) (hm : 1 ≤ m') : Ch lo (l ++ [(a, m')]) := by
  induction l generalizing lo with
  | nil => exact ⟨h.1, hm, trivial⟩
  | cons s r ih => exact ⟨h.1, h.2.1, ih h.2.2⟩

/-- The last span with a sector more. -/
def bump (l : List Sp) : List Sp := l.dropLast ++ [((l.getLast?.getD (0, 0)).1, (l.getLast?.getD (0, 0)).2 + 1)]

theorem bump_snoc (l : List Sp) (s : Sp) : bump (l ++ [s]) = l ++ [(s.1, s.2 + 1)] := by simp [bump]

/-- The row of the sectors below n that f marks. -/
def rows (f : Nat → Bool) : Nat → List Sp
  | 0 => []
  | n + 1 => if f n then (if 0 < n ∧ f (n - 1) = true then bump (rows f n) else rows f n ++ [(n, 1)]) else rows f n

structure RowsOk (f : Nat → Bool) (n : Nat) : Prop where
  mem : ∀ x, memB (rows f n) x = (decide (x < n) && f x)
  ch : Ch 0 (rows f n)
  last : 0 < n → f (n - 1) = true → ∃ l a m, rows f n = l ++ [(a, m)] ∧ a + m = n ∧ 1 ≤ m
  free : ¬ (0 < n ∧ f (n - 1) = true) → ∀ s ∈ rows f n, s.1 + s.2 + 1 ≤ n

theorem rows_ok (f : Nat → Bool) (n : Nat) : RowsOk f n := by
  induction n with
  | zero => exact ⟨fun x => by simp [rows, memB], trivial, fun h => absurd h (Nat.lt_irrefl _), fun _ s hs => by cases hs⟩
  | succ n ih =>
    by_cases hf : f n = true
    · by_cases hp : 0 < n ∧ f (n - 1) = true
      · obtain ⟨l, a, m, e, ham, hm⟩ := ih.last hp.1 hp.2
        have er : rows f (n + 1) = l ++ [(a, m + 1)] := by rw [rows, if_pos hf, if_pos hp, e, bump_snoc]
        refine ⟨fun x => ?_, ?_, fun _ _ => ⟨l, a, m + 1, er, by omega, by omega⟩, fun h => absurd ⟨Nat.succ_pos _, hf⟩ h⟩
        · have h0 := ih.mem x
          rw [e, memB_append] at h0
          rw [er, memB_append]
          have one : ∀ k, memB [(a, k)] x = inB (a, k) x := fun k => by simp [memB]
          rw [one] at h0 ⊢
          by_cases hx : x = n
          · subst hx
            have : inB (a, m + 1) x = true := (inB_iff _ _).2 ⟨by show a ≤ x; omega, by show x < a + (m + 1); omega⟩
            rw [this, hf]
            simp
          · have e2 : inB (a, m + 1) x = inB (a, m) x := by
              rw [Bool.eq_iff_iff, inB_iff, inB_iff]
              show (a ≤ x ∧ x < a + (m + 1)) ↔ (a ≤ x ∧ x < a + m)
              omega
            have e3 : decide (x < n + 1) = decide (x < n) := by
              rw [decide_eq_decide]
              omega
            rw [e2, h0, e3]
        · rw [er]
          have := ih.ch
          rw [e] at this
          exact this.grow (by omega)
      · have er : rows f (n + 1) = rows f n ++ [(n, 1)] := by rw [rows, if_pos hf, if_neg hp]
        have hfree := ih.free hp
        refine ⟨fun x => ?_, ?_, fun _ _ => ⟨_, n, 1, er, rfl, Nat.le_refl _⟩, fun h => absurd ⟨Nat.succ_pos _, hf⟩ h⟩
        · rw [er, memB_append, ih.mem]
          have one : memB [(n, 1)] x = decide (x = n) := by
            rw [show memB [(n, 1)] x = inB (n, 1) x by simp [memB], Bool.eq_iff_iff, inB_iff, decide_eq_true_eq]
            show (n ≤ x ∧ x < n + 1) ↔ x = n
            omega
          rw [one]
          by_cases hx : x = n
          · subst hx
            simp [hf]
          · have e3 : decide (x < n + 1) = decide (x < n) := by
              rw [decide_eq_decide]
              omega
            rw [e3]
            simp [hx]
        · rw [er]
          exact ih.ch.snoc (Nat.zero_le _) (Nat.le_refl _) hfree
    · have hf' : f n = false := by simpa using hf
      have er : rows f (n + 1) = rows f n := by rw [rows, if_neg hf]
      refine ⟨fun x => ?_, by rw [er]; exact ih.ch, fun _ h => absurd h hf, fun _ s hs => ?_⟩
      · rw [er, ih.mem]
        by_cases hx : x = n
        · subst hx
          simp [hf']
        · have e3 : decide (x < n + 1) = decide (x < n) := by
            rw [decide_eq_decide]
            omega
          rw [e3]
      · rw [er] at hs
        by_cases hp : 0 < n ∧ f (n - 1) = true
        · obtain ⟨l, a, m, e, ham, hm⟩ := ih.last hp.1 hp.2
          rw [e, List.mem_append, List.mem_singleton] at hs
          rcases hs with hs | rfl
          · have hc := ih.ch
            rw [e] at hc
            have hsa : ∀ (lo : Nat) (l : List Sp), Ch lo (l ++ [(a, m)]) → ∀ s ∈ l, s.1 + s.2 + 1 ≤ a := by
              intro lo l
              induction l generalizing lo with
              | nil => intro _ s hs; cases hs
              | cons t r iht =>
                intro hc s hs
                rw [List.mem_cons] at hs
                rcases hs with rfl | hs
                · have : memB (r ++ [(a, m)]) a = true := by rw [memB_iff]; exact ⟨(a, m), by simp, Nat.le_refl _, by show a < a + m; omega⟩
                  exact Ch.ge hc.2.2 this
                · exact iht _ hc.2.2 s hs
            have := hsa 0 l hc s hs
            omega
          · show a + m + 1 ≤ n + 1
            omega
        · have := ih.free hp s hs
          omega

theorem rows_len (f : Nat → Bool) (n : Nat) : (rows f n).length ≤ n := by
  induction n with
  | zero => exact Nat.le_refl _
  | succ n ih =>
    rw [rows]
    split
    · split
      · rename_i h
        obtain ⟨l, a, m, e, _, _⟩ := (rows_ok f n).last h.1 h.2
        rw [e, bump_snoc]
        rw [e] at ih
        simp at ih ⊢
        omega
      · simp; omega
    · omega

/-- A row with gaps is the row of its sectors. -/
theorem rows_mem {l : List Sp} {lo n : Nat} (h : Ch lo l) (hn : ∀ x, memB l x = true → x < n) : rows (memB l) n = l := by
  refine (rows_ok (memB l) n).ch.unique h (fun x => ?_)
  rw [(rows_ok (memB l) n).mem]
  by_cases hx : memB l x = true
  · rw [hx, decide_eq_true (hn x hx)]; rfl
  · have : memB l x = false := by simpa using hx
    rw [this, Bool.and_false]

theorem rows_congr {f g : Nat → Bool} {n : Nat} (h : ∀ x, x < n → f x = g x) : rows f n = rows g n := by
  refine (rows_ok f n).ch.unique (rows_ok g n).ch (fun x => ?_)
  rw [(rows_ok f n).mem, (rows_ok g n).mem]
  by_cases hx : x < n
  · rw [h x hx]
  · simp [hx]

theorem rows_inj {f g : Nat → Bool} {n : Nat} (h : rows f n = rows g n) (x : Nat) (hx : x < n) : f x = g x := by
  have h1 := (rows_ok f n).mem x
  have h2 := (rows_ok g n).mem x
  rw [h, h2] at h1
  simpa [hx] using h1.symm

/-- How many sectors below n. -/
def cnt (f : Nat → Bool) : Nat → Nat
  | 0 => 0
  | n + 1 => cnt f n + if f n then 1 else 0

def total (l : List Sp) : Nat := (l.map (·.2)).sum

theorem total_nil : total [] = 0 := rfl
theorem total_cons (s : Sp) (l : List Sp) : total (s :: l) = s.2 + total l := by simp [total]
theorem total_append (l l' : List Sp) : total (l ++ l') = total l + total l' := by simp [total]

theorem cnt_congr {f g : Nat → Bool} {n : Nat} (h : ∀ x, x < n → f x = g x) : cnt f n = cnt g n := by
  induction n with
  | zero => rfl
  | succ n ih => rw [cnt, cnt, ih (fun x hx => h x (by omega)), h n (by omega)]

theorem cnt_or {f g : Nat → Bool} {n : Nat} (h : ∀ x, x < n → f x = true → g x = false) : cnt (fun x => f x || g x) n = cnt f n + cnt g n := by
  induction n with
  | zero => rfl
  | succ n ih =>
    rw [cnt, cnt, cnt, ih (fun x hx => h x (by omega))]
    cases hf : f n with
    | true => rw [h n (by omega) hf]; simp; omega
    | false => simp; omega

theorem cnt_not (f : Nat → Bool) (n : Nat) : cnt f n + cnt (fun x => !f x) n = n := by
  induction n with
  | zero => rfl
  | succ n ih =>
    rw [cnt, cnt]
    cases hf : f n <;> simp <;> omega

theorem cnt_le (f : Nat → Bool) (n : Nat) : cnt f n ≤ n := by
  have := cnt_not f n
  omega

theorem cnt_span (s : Sp) (n : Nat) : cnt (inB s) n = min n (s.1 + s.2) - s.1 := by
  induction n with
  | zero => simp [cnt]
  | succ n ih =>
    rw [cnt, ih]
    by_cases h : inB s n = true
    · have := (inB_iff s n).1 h
      rw [if_pos h]
      omega
    · have h' : ¬ (s.1 ≤ n ∧ n < s.1 + s.2) := fun e => h ((inB_iff s n).2 e)
      rw [if_neg h]
      omega

/-- No sector in common. -/
def Apart (s t : Sp) : Prop := ∀ x, inB s x = true → inB t x = false

theorem memB_apart {s : Sp} {l : List Sp} (h : ∀ t ∈ l, Apart s t) (x : Nat) (hx : inB s x = true) : memB l x = false := by
  rw [Bool.eq_false_iff]
  intro e
  rw [memB, List.any_eq_true] at e
  obtain ⟨t, ht, hi⟩ := e
  rw [h t ht x hx] at hi
  cases hi

theorem cnt_none (n : Nat) : cnt (memB []) n = 0 := by
  induction n with
  | zero => rfl
  | succ n ih => rw [cnt, ih, memB_nil]; rfl

theorem total_cnt {l : List Sp} {n : Nat} (h : l.Pairwise Apart) (hb : ∀ s ∈ l, s.1 + s.2 ≤ n) : total l = cnt (memB l) n := by
  induction l with
  | nil => rw [total_nil, cnt_none]
  | cons s r ih =>
    rw [List.pairwise_cons] at h
    have hs := hb s List.mem_cons_self
    rw [total_cons, ih h.2 (fun t ht => hb t (List.mem_cons_of_mem _ ht)), cnt_congr (g := fun x => inB s x || memB r x) (fun x _ => memB_cons s r x), cnt_or (fun x _ hx => memB_apart h.1 x hx), cnt_span]
    omega

theorem Ch.apart {lo : Nat} {l : List Sp} (h : Ch lo l) : l.Pairwise Apart := by
  induction l generalizing lo with
  | nil => exact List.Pairwise.nil
  | cons s r ih =>
    refine List.Pairwise.cons (fun t ht x hx => ?_) (ih h.2.2)
    rw [Bool.eq_false_iff]
    intro e
    have h1 := (inB_iff s x).1 hx
    have h2 := h.2.2.ge (x := x) (by rw [memB, List.any_eq_true]; exact ⟨t, ht, e⟩)
    omega

theorem Ch.some {lo : Nat} {l : List Sp} (h : Ch lo l) : ∀ s ∈ l, 1 ≤ s.2 := by
  induction l generalizing lo with
  | nil => intro s hs; cases hs
  | cons t r ih =>
    intro s hs
    rw [List.mem_cons] at hs
    rcases hs with rfl | hs
    · exact h.2.1
    · exact ih h.2.2 s hs

end Go.Rc5
