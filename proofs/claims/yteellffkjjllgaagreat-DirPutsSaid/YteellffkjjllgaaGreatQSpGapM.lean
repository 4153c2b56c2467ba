/-
  Gaps of a row of spans that is in order, as mathematics. Conditions: as each theorem states them.
-/
import Derived.Test.YteellffkjjllgaaGreatQSpSort
namespace Go.Rc5

/-- Spans in order, none of them below lo, none over another one. -/
def InRow : Nat → List Sp → Prop
  | _, [] => True
  | lo, s :: r => lo ≤ s.1 ∧ InRow (s.1 + s.2) r

def gapsF (next n : Nat) : List Sp → List Sp
  | [] => if next < n then [(next, n - next)] else []
  | s :: r => (if next < s.1 then [(next, s.1 - next)] else []) ++ gapsF (s.1 + s.2) n r

theorem gapsF_cast (next n : Nat) (M : List Sp) : gpI next (castS M) ++ (if nxI next (castS M) < n then [(nxI next (castS M), (n : Int) - nxI next (castS M))] else []) = castS (gapsF next n M) := by
  induction M generalizing next with
  | nil =>
    simp only [castS, List.map_nil, gpI, nxI, gapsF, List.nil_append]
    by_cases h : next < n
    · rw [if_pos (by omega), if_pos h]
      simp
      omega
    · rw [if_neg (by omega), if_neg h]
      rfl
  | cons s r ih =>
    have ih' := ih (s.1 + s.2)
    have e : castS (s :: r) = ((s.1 : Int), (s.2 : Int)) :: castS r := rfl
    have e2 : ((s.1 : Int) + (s.2 : Int)) = ((s.1 + s.2 : Nat) : Int) := by omega
    rw [e]
    unfold gpI nxI gapsF
    dsimp only
    rw [e2, List.append_assoc, ih', castS_append]
    by_cases h : next < s.1
    · rw [if_pos (by omega), if_pos h]
      congr 1
      simp [castS]
      omega
    · rw [if_neg (by omega), if_neg h]
      rfl

theorem gapsI_cast (n : Nat) (M : List Sp) : gapsI (castS M) n = castS (gapsF 0 n M) := gapsF_cast 0 n M

theorem gapsF_ch {next n : Nat} {M : List Sp} (h : InRow next M) (hs : ∀ s ∈ M, 1 ≤ s.2) : Ch next (gapsF next n M) := by
  induction M generalizing next with
  | nil =>
    unfold gapsF
    split
    · exact ⟨Nat.le_refl _, by omega, trivial⟩
    · trivial
  | cons s r ih =>
    obtain ⟨h1, h2⟩ := h
    have h3 := ih h2 (fun t ht => hs t (List.mem_cons_of_mem _ ht))
    have h4 := hs s List.mem_cons_self
    unfold gapsF
    split
    · exact ⟨Nat.le_refl _, by show 1 ≤ s.1 - next; omega, h3.mono (by show next + (s.1 - next) + 1 ≤ s.1 + s.2; omega)⟩
    · exact h3.mono (by omega)

theorem gapsF_mem {next n : Nat} {M : List Sp} (h : InRow next M) (hf : ∀ s ∈ M, s.1 + s.2 ≤ n) (x : Nat) : memB (gapsF next n M) x = (decide (next ≤ x) && (decide (x < n) && !memB M x)) := by
  induction M generalizing next with
  | nil =>
    unfold gapsF
    rw [Bool.eq_iff_iff]
    split
    · rw [memB_iff]
      simp [memB_nil]
      omega
    · simp [memB_nil]
      omega
  | cons s r ih =>
    obtain ⟨h1, h2⟩ := h
    have h3 := ih h2 (fun t ht => hf t (List.mem_cons_of_mem _ ht))
    have h4 := hf s List.mem_cons_self
    have low : memB r x = true → s.1 + s.2 ≤ x := by
      clear ih h3
      intro hx
      have : ∀ (lo : Nat), InRow lo r → lo ≤ x := by
        clear h2 hf
        induction r with
        | nil => simp [memB_nil] at hx
        | cons t q ihq =>
          intro lo hlo
          obtain ⟨g1, g2⟩ := hlo
          rw [memB_cons, Bool.or_eq_true] at hx
          rcases hx with hx | hx
          · have := (inB_iff _ _).1 hx
            omega
          · have := ihq hx _ g2
            omega
      exact this _ h2
    unfold gapsF
    rw [memB_append, h3, memB_cons]
    rw [Bool.eq_iff_iff]
    have key : (memB (if next < s.1 then [(next, s.1 - next)] else []) x = true) ↔ (next ≤ x ∧ x < s.1) := by
      split
      · rw [memB_iff]
        simp
        omega
      · simp [memB_nil]
        omega
    simp only [Bool.or_eq_true, Bool.and_eq_true, decide_eq_true_eq, key, Bool.not_eq_true', Bool.or_eq_false_iff]
    constructor
    · rintro (⟨a, b⟩ | ⟨a, b, c⟩)
      · refine ⟨a, by omega, ?_, ?_⟩
        · cases e : inB s x with
          | false => rfl
          | true => have := (inB_iff _ _).1 e; omega
        · cases e : memB r x with
          | false => rfl
          | true => have := low e; omega
      · refine ⟨by omega, b, ?_, c⟩
        cases e : inB s x with
        | false => rfl
        | true => have := (inB_iff _ _).1 e; omega
    · rintro ⟨a, b, c, d⟩
      by_cases hx : x < s.1
      · exact .inl ⟨a, hx⟩
      · refine .inr ⟨?_, b, d⟩
        by_cases hy : s.1 + s.2 ≤ x
        · exact hy
        · exfalso
          have : inB s x = true := (inB_iff _ _).2 ⟨by omega, by omega⟩
          rw [this] at c
          cases c

theorem rows_of {l : List Sp} {f : Nat → Bool} {n : Nat} (h : Ch 0 l) (hm : ∀ x, memB l x = (decide (x < n) && f x)) : l = rows f n := by
  rw [← rows_mem (n := n) h (fun x hx => by rw [hm] at hx; simp at hx; exact hx.1)]
  exact rows_congr fun x hx => by rw [hm]; simp [hx]

/-- The gaps of a row in order are the row of all other sectors. -/
theorem gapsF_rows {n : Nat} {M : List Sp} (h : InRow 0 M) (hs : ∀ s ∈ M, 1 ≤ s.2) (hf : ∀ s ∈ M, s.1 + s.2 ≤ n) : gapsF 0 n M = rows (fun x => !memB M x) n :=
  rows_of (gapsF_ch h hs) fun x => by rw [gapsF_mem h hf]; simp

theorem Ch.inRow {lo : Nat} {l : List Sp} (h : Ch lo l) : InRow lo l := by
  induction l generalizing lo with
  | nil => trivial
  | cons s r ih =>
    obtain ⟨h1, _, h3⟩ := h
    exact ⟨h1, ih (h3.mono (by omega))⟩

theorem rows_fitG (f : Nat → Bool) (n : Nat) : ∀ s ∈ rows f n, s.1 + s.2 ≤ n := by
  intro s hs
  have h1 := (rows_ok f n).ch.some s hs
  have h2 : memB (rows f n) (s.1 + s.2 - 1) = true := (memB_iff _ _).2 ⟨s, hs, by omega, by omega⟩
  have h3 : s.1 + s.2 - 1 < n := by
    have := (rows_ok f n).mem (s.1 + s.2 - 1)
    rw [h2] at this
    simp at this
    exact this.1
  omega

theorem rows_fits (f : Nat → Bool) (n : Nat) (x : Nat) : memB (rows f n) x = (decide (x < n) && f x) := (rows_ok f n).mem x

/-- The gaps' gaps of a row in order are the row of its sectors. -/
theorem gapsF_twice {n : Nat} {M : List Sp} (h : InRow 0 M) (hs : ∀ s ∈ M, 1 ≤ s.2) (hf : ∀ s ∈ M, s.1 + s.2 ≤ n) : gapsF 0 n (gapsF 0 n M) = rows (memB M) n := by
  rw [gapsF_rows h hs hf, gapsF_rows (rows_ok _ _).ch.inRow (rows_ok _ _).ch.some (rows_fitG _ _)]
  refine rows_congr fun x hx => ?_
  rw [rows_fits]
  simp [hx]

theorem memB_perm {M N : List Sp} (h : M.Perm N) (x : Nat) : memB M x = memB N x := by
  rw [Bool.eq_iff_iff, memB_iff, memB_iff]
  constructor
  · rintro ⟨s, hs, r⟩
    exact ⟨s, h.mem_iff.1 hs, r⟩
  · rintro ⟨s, hs, r⟩
    exact ⟨s, h.mem_iff.2 hs, r⟩

theorem Apart.symm {s t : Sp} (h : Apart s t) : Apart t s := fun x hx => by
  cases e : inB s x with
  | false => rfl
  | true => rw [h x e] at hx; cases hx

theorem apart_perm {M N : List Sp} (h : M.Perm N) : M.Pairwise Apart ↔ N.Pairwise Apart := h.pairwise_iff (fun h => h.symm)

theorem InRow.apart {lo : Nat} {M : List Sp} (h : InRow lo M) : M.Pairwise Apart := by
  have low : ∀ (M : List Sp) (lo : Nat), InRow lo M → ∀ t ∈ M, lo ≤ t.1 := by
    intro M
    induction M with
    | nil => intro _ _ t ht; cases ht
    | cons s r ih =>
      intro lo hlo t ht
      obtain ⟨h1, h2⟩ := hlo
      rcases List.mem_cons.1 ht with rfl | ht
      · exact h1
      · have := ih _ h2 t ht
        omega
  induction M generalizing lo with
  | nil => exact List.Pairwise.nil
  | cons s r ih =>
    obtain ⟨_, h2⟩ := h
    refine List.Pairwise.cons (fun t ht x hx => ?_) (ih h2)
    have := low _ _ h2 t ht
    have := (inB_iff _ _).1 hx
    cases e : inB t x with
    | false => rfl
    | true => have := (inB_iff _ _).1 e; omega

/-- Spans in order of their first sectors that share nothing are in a row. -/
theorem inRow_of {M : List Sp} (h : M.Pairwise fun s t => s.1 ≤ t.1) (hs : ∀ s ∈ M, 1 ≤ s.2) (ha : M.Pairwise Apart) (lo : Nat) (hl : ∀ s ∈ M, lo ≤ s.1) : InRow lo M := by
  induction M generalizing lo with
  | nil => trivial
  | cons s r ih =>
    obtain ⟨h1, h2⟩ := List.pairwise_cons.1 h
    obtain ⟨a1, a2⟩ := List.pairwise_cons.1 ha
    refine ⟨hl s List.mem_cons_self, ih h2 (fun t ht => hs t (List.mem_cons_of_mem _ ht)) a2 _ (fun t ht => ?_)⟩
    have g1 := h1 t ht
    have g2 := hs t (List.mem_cons_of_mem _ ht)
    by_cases hlt : t.1 < s.1 + s.2
    · have e1 : inB s t.1 = true := (inB_iff _ _).2 ⟨g1, hlt⟩
      have e2 := a1 t ht _ e1
      have e3 : inB t t.1 = true := (inB_iff _ _).2 ⟨Nat.le_refl _, by omega⟩
      rw [e2] at e3
      cases e3
    · omega

theorem InRow.snoc {lo : Nat} {M : List Sp} {s : Sp} (h : InRow lo M) (hs : (nxI lo (castS M)) ≤ s.1) : InRow lo (M ++ [s]) := by
  induction M generalizing lo with
  | nil =>
    refine ⟨?_, trivial⟩
    simp [castS, nxI] at hs
    omega
  | cons t r ih =>
    obtain ⟨h1, h2⟩ := h
    refine ⟨h1, ih h2 ?_⟩
    have e : castS (t :: r) = ((t.1 : Int), (t.2 : Int)) :: castS r := rfl
    rw [e] at hs
    unfold nxI at hs
    rw [Int.natCast_add]
    exact hs

theorem InRow.last {lo : Nat} {M : List Sp} {s : Sp} {r : List Sp} (h : InRow lo (M ++ s :: r)) : nxI lo (castS M) ≤ s.1 := by
  induction M generalizing lo with
  | nil =>
    simp [castS, nxI]
    exact h.1
  | cons t q ih =>
    obtain ⟨_, h2⟩ := h
    have := ih h2
    have e : castS (t :: q) = ((t.1 : Int), (t.2 : Int)) :: castS q := rfl
    rw [e]
    unfold nxI
    rw [Int.natCast_add] at this
    exact this

theorem castS_perm {L : List SpI} {N : List Sp} (h : L.Perm (castS N)) : ∃ M, L = castS M ∧ M.Perm N := by
  have back : ∀ s : Sp, (fun s : SpI => (s.1.toNat, s.2.toNat)) ((s.1 : Int), (s.2 : Int)) = s := fun s => Prod.ext (by simp) (by simp)
  refine ⟨L.map fun s => (s.1.toNat, s.2.toNat), ?_, ?_⟩
  · unfold castS
    rw [List.map_map]
    symm
    have e : ∀ s ∈ L, ((fun s : Sp => ((s.1 : Int), (s.2 : Int))) ∘ fun s : SpI => (s.1.toNat, s.2.toNat)) s = id s := by
      intro s hs
      have hm := h.mem_iff.1 hs
      simp only [castS, List.mem_map] at hm
      obtain ⟨t, _, rfl⟩ := hm
      simp
    exact (List.map_congr_left e).trans (List.map_id L)
  · have h1 := h.map (fun s : SpI => (s.1.toNat, s.2.toNat))
    have e : (castS N).map (fun s : SpI => (s.1.toNat, s.2.toNat)) = N := by
      unfold castS
      rw [List.map_map]
      exact (List.map_congr_left (fun s _ => back s)).trans (List.map_id N)
    rwa [e] at h1

theorem castS_small {M : List Sp} {n : Nat} (hn : n ≤ 8192) (h : ∀ s ∈ M, s.1 + s.2 ≤ n) : Small (castS M) := by
  intro s hs
  simp only [castS, List.mem_map] at hs
  obtain ⟨t, ht, rfl⟩ := hs
  have := h t ht
  exact ⟨by simp, by simp, by simp; omega⟩

theorem gapsF_fit {n : Nat} {M : List Sp} (h : InRow 0 M) (hs : ∀ s ∈ M, 1 ≤ s.2) (hf : ∀ s ∈ M, s.1 + s.2 ≤ n) : ∀ s ∈ gapsF 0 n M, s.1 + s.2 ≤ n := by
  rw [gapsF_rows h hs hf]
  exact rows_fitG _ _

end Go.Rc5
