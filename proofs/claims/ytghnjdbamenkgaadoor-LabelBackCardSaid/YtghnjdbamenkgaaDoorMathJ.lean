/-
  Plain facts: unlike texts are quoted unlike; what a word stands for. No program is named here. Conditions: none.
-/
import Derived.Test.YtghnjdbamenkgaaDoorMathS
namespace Go.Rc1

theorem split_at (c : UInt8) : ∀ (a b x y : List UInt8), c ∉ a → c ∉ b → a ++ c :: x = b ++ c :: y → a = b ∧ x = y
  | [], [], x, y, _, _, h => by simpa using h
  | [], b :: t, x, y, _, hb, h => by
    simp only [List.nil_append, List.cons_append, List.cons.injEq] at h
    exact absurd (by rw [h.1]; simp) hb
  | a :: t, [], x, y, ha, _, h => by
    simp only [List.nil_append, List.cons_append, List.cons.injEq] at h
    exact absurd (by rw [h.1]; simp) ha
  | a :: s, b :: t, x, y, ha, hb, h => by
    simp only [List.cons_append, List.cons.injEq] at h
    obtain ⟨h1, h2⟩ := split_at c s t x y (fun e => ha (List.mem_cons_of_mem _ e)) (fun e => hb (List.mem_cons_of_mem _ e)) h.2
    exact ⟨by rw [h.1, h1], h2⟩

theorem no125 (r : Nat) : (125 : UInt8) ∉ hexL r := by
  intro h
  have := hexL_dig r 125 h
  revert this; decide

theorem hexL_inj (a b : Nat) (h : hexL a = hexL b) : a = b := by
  have h1 := hx_hex (a + b) a (by omega)
  rw [h, hx_hex (a + b) b (by omega)] at h1
  exact (Option.some.inj h1).symm

theorem quoteF_inj : ∀ u v, quoteF u = quoteF v → u = v := by
  apply cut_ind (P := fun u => ∀ v, quoteF u = quoteF v → u = v)
  · intro v h
    exact ((quoteF_nil_iff v).1 (h.symm.trans quoteF_nil)).symm
  · intro u hu ih v h
    have hv : v ≠ [] := by
      rintro rfl
      exact hu ((quoteF_nil_iff u).1 (h.trans quoteF_nil))
    have key : u.take (dec u).2 = v.take (dec v).2 ∧ quoteF (u.drop (dec u).2) = quoteF (v.drop (dec v).2) := by
      rw [quoteF_cons u hu, quoteF_cons v hv] at h
      rcases qc_cases u hu with ⟨b, hp, e, e2⟩ | ⟨e, e2⟩ | ⟨n, n1, n2, e, e2⟩ | ⟨r, hs, e, e2⟩ <;> rcases qc_cases v hv with ⟨b', hp', f, f2⟩ | ⟨f, f2⟩ | ⟨n', n1', n2', f, f2⟩ | ⟨r', hs', f, f2⟩ <;> rw [e, f] at h
      · simp only [List.cons_append, List.nil_append, List.cons.injEq] at h
        rw [e2, f2, h.1]; exact ⟨rfl, h.2⟩
      · simp at h; exact absurd h.1 (plB_ne b hp)
      · simp at h; exact absurd h.1 (plB_ne b hp)
      · simp at h; exact absurd h.1 (plB_ne b hp)
      · simp at h; exact absurd h.1.symm (plB_ne b' hp')
      · simp only [List.cons_append, List.nil_append, List.cons.injEq, true_and] at h
        rw [e2, f2]; exact ⟨rfl, h⟩
      · simp at h
      · simp at h
      · simp at h; exact absurd h.1.symm (plB_ne b' hp')
      · simp at h
      · rw [hexL_two n (by omega) n2, hexL_two n' (by omega) n2'] at h
        simp only [List.cons_append, List.nil_append, List.cons.injEq, true_and] at h
        have hn : n = n' := hexL_inj n n' (by rw [hexL_two n (by omega) n2, hexL_two n' (by omega) n2', h.1, h.2.1])
        rw [e2, f2, hn]; exact ⟨rfl, h.2.2⟩
      · simp at h
      · simp at h; exact absurd h.1.symm (plB_ne b' hp')
      · simp at h
      · simp at h
      · simp only [List.append_assoc, List.cons_append, List.nil_append, List.cons.injEq, true_and] at h
        obtain ⟨h1, h2⟩ := split_at 125 _ _ _ _ (no125 r) (no125 r') h
        rw [e2, f2, hexL_inj r r' h1]; exact ⟨rfl, h2⟩
    rw [← List.take_append_drop (dec u).2 u, ← List.take_append_drop (dec v).2 v, key.1, ih _ key.2]

theorem quote_inj (u v : List UInt8) (h : quote u = quote v) : u = v := by
  by_cases hu : u = []
  · subst hu
    exact (quote_under v (h.symm.trans rfl)).symm
  · by_cases hv : v = []
    · subst hv
      exact quote_under u (h.trans rfl)
    · unfold quote at h
      rw [if_neg hu, if_neg hv] at h
      exact quoteF_inj u v h

open Classical in
/-- What a word stands for (0: no error), or nothing (2). -/
noncomputable def unq (l : List UInt8) : List UInt8 × Int := if h : ∃ t, quote t = l then (h.choose, 0) else ([], 2)

theorem unq_some {l t : List UInt8} (h : quote t = l) : unq l = (t, 0) := by
  have hx : ∃ t, quote t = l := ⟨t, h⟩
  unfold unq
  rw [dif_pos hx]
  have := hx.choose_spec
  rw [quote_inj _ t (this.trans h.symm)]

theorem unq_none {l : List UInt8} (h : ¬ ∃ t, quote t = l) : unq l = ([], 2) := by
  unfold unq; rw [dif_neg h]

end Go.Rc1
