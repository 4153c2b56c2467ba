/-
  Plain facts on reading a quoted word step by step, and on what a word stands for. No program is named here. Conditions: none.
-/
import Derived.Test.YtghnjdbamenkgaaDoorMathI
namespace Go.Rc1

theorem quoteF_nil_iff (u : List UInt8) : quoteF u = [] ↔ u = [] := by
  constructor
  · intro h
    by_cases e : u = []
    · exact e
    · rw [quoteF_cons u e] at h
      exact absurd (List.append_eq_nil_iff.1 h).1 (qc_ne u e)
  · rintro rfl; rfl

theorem plB_ne (b : UInt8) (h : plB b = true) : b ≠ 92 := by
  rintro rfl; revert h; decide

/-- A sign that is no stroke stands for itself. -/
theorem step_plain (u rest : List UInt8) (c : UInt8) (hc : c ≠ 92) (h : c :: rest = quoteF u) : ∃ v, u = c :: v ∧ rest = quoteF v := by
  have hne : u ≠ [] := by rintro rfl; simp [quoteF_nil] at h
  rw [quoteF_cons u hne] at h
  rcases qc_cases u hne with ⟨b, hp, e, e2⟩ | ⟨e, e2⟩ | ⟨n, _, _, e, e2⟩ | ⟨r, _, e, e2⟩
  · rw [e] at h
    simp only [List.cons_append, List.nil_append, List.cons.injEq] at h
    refine ⟨u.drop (dec u).2, ?_, h.2⟩
    rw [h.1]
    conv => lhs; rw [← List.take_append_drop (dec u).2 u, e2]
    rfl
  · rw [e] at h; simp at h; exact absurd h.1 hc
  · rw [e] at h; simp at h; exact absurd h.1 hc
  · rw [e] at h; simp at h; exact absurd h.1 hc

/-- A stroke begins what a mark says. -/
theorem step_mark (u l p : List UInt8) (k : Nat) (h92 : ∃ rest, l = 92 :: rest) (h : l = quoteF u) (hM : Mk l p k) : k ≠ 0 ∧ ∃ v, u = p ++ v ∧ l.drop k = quoteF v := by
  obtain ⟨rest, hr⟩ := h92
  have hne : u ≠ [] := by rintro rfl; rw [hr] at h; simp [quoteF_nil] at h
  have hq := h
  rw [quoteF_cons u hne] at hq
  have hu := List.take_append_drop (dec u).2 u
  rcases qc_cases u hne with ⟨b, hp, e, e2⟩ | ⟨e, e2⟩ | ⟨n, n1, n2, e, e2⟩ | ⟨r, hs, e, e2⟩
  · rw [e, hr] at hq
    simp only [List.cons_append, List.nil_append, List.cons.injEq] at hq
    exact absurd hq.1.symm (plB_ne b hp)
  · rw [e] at hq
    obtain ⟨rfl, rfl⟩ := hM.1 _ hq
    refine ⟨by omega, u.drop (dec u).2, by rw [← e2, hu], ?_⟩
    rw [hq]; rfl
  · rw [e] at hq
    obtain ⟨rfl, rfl⟩ := hM.2.1 n _ n1 n2 hq
    refine ⟨by omega, u.drop (dec u).2, by rw [← e2, hu], ?_⟩
    rw [hq, hexL_two n (by omega) n2]; rfl
  · rw [e] at hq
    obtain ⟨rfl, rfl⟩ := hM.2.2 r _ hs hq
    refine ⟨by omega, u.drop (dec u).2, by rw [← e2, hu], ?_⟩
    rw [hq]
    exact List.drop_left' (by first | (simp; done) | (simp; omega))

theorem quote_under (t : List UInt8) (h : quote t = [92, 95]) : t = [] := by
  by_cases e : t = []
  · exact e
  · exfalso
    unfold quote at h
    rw [if_neg e, quoteF_cons t e] at h
    rcases qc_cases t e with ⟨b, hp, e1, -⟩ | ⟨e1, -⟩ | ⟨n, _, _, e1, -⟩ | ⟨r, _, e1, -⟩
    · rw [e1] at h; simp at h; exact plB_ne b hp h.1
    · rw [e1] at h; simp at h
    · rw [e1] at h; simp at h
    · rw [e1] at h; simp at h

end Go.Rc1
