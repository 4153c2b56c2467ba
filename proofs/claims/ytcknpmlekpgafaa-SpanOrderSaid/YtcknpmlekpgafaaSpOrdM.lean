/-
  Spans that fit share no sector just if they have as many sectors as there are marked: so neither their order nor how they are cut matters. Conditions: as each theorem states them.
-/
import Derived.Test.YtcknpmlekpgafaaSpTakeM
namespace Go.Rc5

theorem cnt_or_le (f g : Nat → Bool) (n : Nat) : cnt (fun x => f x || g x) n ≤ cnt f n + cnt g n := by
  induction n with
  | zero => exact Nat.le_refl _
  | succ n ih =>
    rw [cnt, cnt, cnt]
    cases f n <;> cases g n <;> simp <;> omega

theorem cnt_or_eq {f g : Nat → Bool} {n : Nat} (h : cnt (fun x => f x || g x) n = cnt f n + cnt g n) : ∀ x, x < n → f x = true → g x = false := by
  induction n with
  | zero => intro x hx; omega
  | succ n ih =>
    rw [cnt, cnt, cnt] at h
    have hle := cnt_or_le f g n
    have hn : f n = true → g n = false := by
      cases hf : f n with
      | false => intro e; cases e
      | true =>
        cases hg : g n with
        | false => intro _; rfl
        | true =>
          rw [hf, hg] at h
          simp at h
          omega
    have he : cnt (fun x => f x || g x) n = cnt f n + cnt g n := by
      cases hf : f n <;> cases hg : g n <;> rw [hf, hg] at h <;> simp at h <;> omega
    intro x hx hfx
    by_cases e : x = n
    · subst e
      exact hn hfx
    · exact ih he x (by omega) hfx

theorem cnt_le_total {l : List Sp} {n : Nat} (h : ∀ s ∈ l, s.1 + s.2 ≤ n) : cnt (memB l) n ≤ total l := by
  induction l with
  | nil => rw [cnt_none]; exact Nat.zero_le _
  | cons s r ih =>
    have h1 := ih (fun t ht => h t (List.mem_cons_of_mem _ ht))
    have h2 := h s List.mem_cons_self
    have h3 := cnt_or_le (inB s) (memB r) n
    rw [cnt_congr (g := fun x => inB s x || memB r x) (fun x _ => memB_cons s r x), total_cons]
    rw [cnt_span] at h3
    omega

theorem apart_of_total {l : List Sp} {n : Nat} (h : ∀ s ∈ l, s.1 + s.2 ≤ n) (ht : total l = cnt (memB l) n) : l.Pairwise Apart := by
  induction l with
  | nil => exact List.Pairwise.nil
  | cons s r ih =>
    have hr : ∀ t ∈ r, t.1 + t.2 ≤ n := fun t ht => h t (List.mem_cons_of_mem _ ht)
    have h1 := cnt_le_total hr
    have h2 := h s List.mem_cons_self
    have h3 := cnt_or_le (inB s) (memB r) n
    have h4 := cnt_span s n
    rw [cnt_congr (g := fun x => inB s x || memB r x) (fun x _ => memB_cons s r x), total_cons] at ht
    refine List.Pairwise.cons (fun t htr x hx => ?_) (ih hr (by omega))
    have hxs := (inB_iff s x).1 hx
    have h5 := cnt_or_eq (f := inB s) (g := memB r) (n := n) (by omega) x (by omega) hx
    rw [Bool.eq_false_iff]
    intro e
    rw [Bool.eq_false_iff] at h5
    exact h5 (by rw [memB, List.any_eq_true]; exact ⟨t, htr, e⟩)

theorem apart_iff {l : List Sp} {n : Nat} (h : ∀ s ∈ l, s.1 + s.2 ≤ n) : l.Pairwise Apart ↔ total l = cnt (memB l) n :=
  ⟨fun hp => total_cnt hp h, apart_of_total h⟩

/-- Two rows of the same sectors, and as many in all: one shares no sector just if the other does not. -/
theorem apart_same {l l' : List Sp} {n : Nat} (h : ∀ s ∈ l, s.1 + s.2 ≤ n) (h' : ∀ s ∈ l', s.1 + s.2 ≤ n) (ht : total l = total l') (hm : ∀ x, memB l x = memB l' x) : l.Pairwise Apart ↔ l'.Pairwise Apart := by
  rw [apart_iff h, apart_iff h', ht, cnt_congr (fun x _ => hm x)]

/-- Turned: those behind the k-th first. -/
theorem turned_same (l : List Sp) (k : Nat) : total (l.drop k ++ l.take k) = total l ∧ ∀ x, memB (l.drop k ++ l.take k) x = memB l x := by
  have e : l = l.take k ++ l.drop k := (List.take_append_drop k l).symm
  refine ⟨?_, fun x => ?_⟩
  · conv => rhs; rw [e]
    rw [total_append, total_append]
    omega
  · conv => rhs; rw [e]
    rw [memB_append, memB_append, Bool.or_comm]

/-- The k-th span with a sector fewer, and that sector behind all. -/
def cutAt (l : List Sp) (k : Nat) : List Sp := l.set k ((l.getD k (0, 0)).1, (l.getD k (0, 0)).2 - 1) ++ [((l.getD k (0, 0)).1 + (l.getD k (0, 0)).2 - 1, 1)]

theorem cut_same (l : List Sp) (k : Nat) (hk : k < l.length) (h2 : 2 ≤ (l.getD k (0, 0)).2) : total (cutAt l k) = total l ∧ ∀ x, memB (cutAt l k) x = memB l x := by
  have e : l = l.take k ++ l.getD k (0, 0) :: l.drop (k + 1) := by
    have h1 : l.getD k (0, 0) = l[k] := by simp [List.getD_eq_getElem?_getD, hk]
    rw [h1, List.getElem_cons_drop, List.take_append_drop]
  have es : ∀ t, l.set k t = l.take k ++ t :: l.drop (k + 1) := fun t => List.set_eq_take_append_cons_drop.trans (by rw [if_pos hk])
  unfold cutAt
  rw [es]
  generalize l.getD k (0, 0) = s at *
  obtain ⟨s1, s2⟩ := s
  dsimp only at h2 ⊢
  refine ⟨?_, fun x => ?_⟩
  · conv => rhs; rw [e]
    rw [total_append, total_append, total_append, total_cons, total_cons, total_cons, total_nil]
    dsimp only
    omega
  · conv => rhs; rw [e]
    rw [memB_append, memB_append, memB_append, memB_cons, memB_cons, memB_cons, memB_nil, Bool.or_false]
    have h3 : inB (s1, s2) x = (inB (s1, s2 - 1) x || inB (s1 + s2 - 1, 1) x) := by
      rw [Bool.eq_iff_iff, Bool.or_eq_true, inB_iff, inB_iff, inB_iff]
      dsimp only
      omega
    rw [h3]
    cases memB (l.take k) x <;> cases inB (s1, s2 - 1) x <;> cases memB (l.drop (k + 1)) x <;> cases inB (s1 + s2 - 1, 1) x <;> rfl

theorem cut_fit {l : List Sp} {k n : Nat} (hk : k < l.length) (h2 : 2 ≤ (l.getD k (0, 0)).2) (hs : ∀ s ∈ l, 1 ≤ s.2) (hf : ∀ s ∈ l, s.1 + s.2 ≤ n) : (∀ s ∈ cutAt l k, 1 ≤ s.2) ∧ ∀ s ∈ cutAt l k, s.1 + s.2 ≤ n := by
  have hm : l.getD k (0, 0) ∈ l := by
    rw [List.getD_eq_getElem?_getD, List.getElem?_eq_getElem hk]
    exact List.getElem_mem _
  have hfk := hf _ hm
  unfold cutAt
  generalize l.getD k (0, 0) = s at *
  obtain ⟨s1, s2⟩ := s
  dsimp only at h2 hfk ⊢
  have key : ∀ t ∈ l.set k (s1, s2 - 1) ++ [(s1 + s2 - 1, 1)], t ∈ l ∨ t = (s1, s2 - 1) ∨ t = (s1 + s2 - 1, 1) := fun t ht => by
    rw [List.mem_append, List.mem_singleton] at ht
    rcases ht with ht | ht
    · rcases List.mem_or_eq_of_mem_set ht with h | h
      · exact .inl h
      · exact .inr (.inl h)
    · exact .inr (.inr ht)
  refine ⟨fun t ht => ?_, fun t ht => ?_⟩
  · rcases key t ht with h | rfl | rfl
    · exact hs t h
    · show 1 ≤ s2 - 1
      omega
    · exact Nat.le_refl _
  · rcases key t ht with h | rfl | rfl
    · exact hf t h
    · show s1 + (s2 - 1) ≤ n
      omega
    · show s1 + s2 - 1 + 1 ≤ n
      omega

end Go.Rc5
