/-
  Several things in memory that share nothing, in a world that but for some blocks is as it was: one at a time is changed; several may be held as one. Conditions: as each theorem states them.
-/
import Derived.Test.YtnknojkihjpjkaaHold
namespace Go.Proofs.Ytnknojkihjpjkaa
open Go.RowKit

/-- What becomes of a thing: t' now, and but for its own blocks all is as it was. -/
def Turns (t' : Thing 0) (O : Nat → Prop) (w w' : World) : Prop := ∃ O', t'.holds O' w' ∧ Moved O w w' ∧ ∀ k, O' k → O k ∨ w.heap.size ≤ k

/-- A thing that is made, in new memory. -/
def Fresh (t : Thing 0) (w w' : World) : Prop := ∃ O, t.holds O w' ∧ Below w.heap.size w w' ∧ ∀ k, O k → w.heap.size ≤ k

/-- Things that share nothing; but for the blocks of U all that was there in w0 is as it was. -/
structure Crew (U : Nat → Prop) (w0 : World) (l : List (Thing 0)) (w : World) : Prop where
  mv : Moved U w0 w
  each : ∃ Os : Nat → Nat → Prop, (∀ (i : Nat) (t : Thing 0), l[i]? = some t → t.holds (Os i) w ∧ ∀ k, Os i k → U k ∨ w0.heap.size ≤ k) ∧ ∀ i j, i < l.length → j < l.length → i ≠ j → ∀ k, Os i k → Os j k → False

section
variable {U : Nat → Prop} {w0 w w' : World} {l : List (Thing 0)}

theorem Crew.start (w : World) : Crew (fun _ => False) w [] w := ⟨Moved.refl _ _, fun _ _ => False, fun i t h => by simp at h, fun i j h => by simp at h⟩

theorem Crew.bel (h : Crew (fun _ => False) w0 l w) : Below w0.heap.size w0 w := h.mv.below (Nat.le_refl _) (fun _ hk => hk.elim)

theorem Crew.size (h : Crew U w0 l w) : w0.heap.size ≤ w.heap.size := h.mv.size

theorem Crew.below (h : Crew U w0 l w) (hb : Below w.heap.size w w') : Crew U w0 l w' := by
  obtain ⟨h1, Os, h2, h3⟩ := h
  refine ⟨h1.trans (O' := fun _ => False) (.of_below _ hb) (fun _ h => h.elim), Os, fun i t ht => ⟨t.keep (h2 i t ht).1 (fun k hk => hb.block k ((t.lt (h2 i t ht).1 k hk).2)), (h2 i t ht).2⟩, h3⟩

theorem Crew.one (h : Crew U w0 l w) {i : Nat} {t : Thing 0} (hi : l[i]? = some t) :
    ∃ O, t.holds O w ∧ (∀ (t' : Thing 0) (w' : World), Turns t' O w w' → Crew U w0 (l.set i t') w') ∧
      (∀ (j : Nat) (u : Thing 0), j ≠ i → l[j]? = some u → ∃ O2, u.holds O2 w ∧ ∀ k, O2 k → O k → False) ∧ ∀ k, O k → U k ∨ w0.heap.size ≤ k := by
  have hsz := h.size
  obtain ⟨h1, Os, h2, h3⟩ := h
  have hil : i < l.length := (List.getElem?_eq_some_iff.1 hi).1
  refine ⟨Os i, (h2 i t hi).1, ?_, fun j u hne hu => ⟨Os j, (h2 j u hu).1, h3 j i (List.getElem?_eq_some_iff.1 hu).1 hil hne⟩, (h2 i t hi).2⟩
  rintro t' w' ⟨O', ht', hm, hO⟩
  have lim : ∀ k, O' k → U k ∨ w0.heap.size ≤ k := fun k hk => (hO k hk).elim ((h2 i t hi).2 k) (fun h => .inr (Nat.le_trans hsz h))
  refine ⟨h1.trans hm (fun k hk => (h2 i t hi).2 k hk), fun j k => if j = i then O' k else Os j k, fun j u hu => ?_, fun j j' hj hj' hne k hk hk' => ?_⟩
  · by_cases e : j = i
    · subst e
      rw [List.getElem?_set_self hil] at hu
      cases hu
      simpa using ⟨ht', lim⟩
    · rw [List.getElem?_set_ne (fun h => e h.symm)] at hu
      have := h2 j u hu
      simp only [e, if_false]
      exact ⟨u.keep this.1 (fun k hk => hm.block k (u.lt this.1 k hk).2 (fun ho => h3 j i (List.getElem?_eq_some_iff.1 hu).1 hil e k hk ho)), this.2⟩
  · simp only [List.length_set] at hj hj'
    have aux : ∀ j, j < l.length → ∀ k, Os j k → k < w.heap.size := fun j hj k hk => by
      obtain ⟨u, hu⟩ : ∃ u, l[j]? = some u := ⟨_, List.getElem?_eq_getElem hj⟩
      exact (u.lt (h2 j u hu).1 k hk).2
    by_cases e : j = i
    · subst e
      have e' : j' ≠ j := fun h => hne h.symm
      simp only [if_true, e', if_false] at hk hk'
      rcases hO k hk with ho | ho
      · exact h3 j j' hj hj' hne k ho hk'
      · have := aux j' hj' k hk'; omega
    · by_cases e' : j' = i
      · subst e'
        simp only [if_true, e, if_false] at hk hk'
        rcases hO k hk' with ho | ho
        · exact h3 j j' hj hj' hne k hk ho
        · have := aux j hj k hk; omega
      · simp only [e, e', if_false] at hk hk'
        exact h3 j j' hj hj' hne k hk hk'

theorem Crew.more (h : Crew U w0 l w) {t : Thing 0} (hf : Fresh t w w') : Crew U w0 (l ++ [t]) w' := by
  obtain ⟨O, ht, hb, hO⟩ := hf
  have hsz := h.size
  obtain ⟨h1, Os, h2, h3⟩ := h
  have aux : ∀ i, i < l.length → ∀ k, Os i k → k < w.heap.size := fun i hi k hk => by
    obtain ⟨u, hu⟩ : ∃ u, l[i]? = some u := ⟨_, List.getElem?_eq_getElem hi⟩
    exact (u.lt (h2 i u hu).1 k hk).2
  refine ⟨h1.trans (O' := fun _ => False) (.of_below _ hb) (fun _ h => h.elim), fun j k => if j = l.length then O k else Os j k, fun j u hu => ?_, fun j j' hj hj' hne k hk hk' => ?_⟩
  · by_cases e : j = l.length
    · subst e
      simp at hu
      subst hu
      simp only [if_true]
      exact ⟨ht, fun k hk => .inr (Nat.le_trans hsz (hO k hk))⟩
    · have hj : j < l.length := by
        have := (List.getElem?_eq_some_iff.1 hu).1
        simp at this
        omega
      rw [List.getElem?_append_left hj] at hu
      simp only [e, if_false]
      have := h2 j u hu
      exact ⟨u.keep this.1 (fun k hk => hb.block k (u.lt this.1 k hk).2), this.2⟩
  · simp only [List.length_append, List.length_singleton] at hj hj'
    by_cases e : j = l.length
    · have e' : j' ≠ l.length := fun h => hne (e.trans h.symm)
      simp only [e, e', if_true, if_false] at hk hk'
      have := hO k hk
      have := aux j' (by omega) k hk'
      omega
    · by_cases e' : j' = l.length
      · simp only [e, e', if_true, if_false] at hk hk'
        have := hO k hk'
        have := aux j (by omega) k hk
        omega
      · simp only [e, e', if_false] at hk hk'
        exact h3 j j' (by omega) (by omega) hne k hk hk'

/-- The last one takes the place of another one, which is forgotten. -/
theorem Crew.swap {t : Thing 0} (h : Crew U w0 (l ++ [t]) w) (i : Nat) (hi : i < l.length) : Crew U w0 (l.set i t) w := by
  obtain ⟨h1, Os, h2, h3⟩ := h
  refine ⟨h1, fun j => if j = i then Os l.length else Os j, fun j u hu => ?_, fun j j' hj hj' hne k hk hk' => ?_⟩
  · by_cases e : j = i
    · subst e
      rw [List.getElem?_set_self hi] at hu
      cases hu
      simp only [if_true]
      exact h2 l.length t (by simp)
    · rw [List.getElem?_set_ne (fun h => e h.symm)] at hu
      simp only [e, if_false]
      exact h2 j u (by rw [List.getElem?_append_left (List.getElem?_eq_some_iff.1 hu).1]; exact hu)
  · simp only [List.length_set] at hj hj'
    have big : ∀ i, i < l.length → i < (l ++ [t]).length := fun i hi => by simp; omega
    have last : l.length < (l ++ [t]).length := by simp
    by_cases e : j = i
    · subst e
      have e' : j' ≠ j := fun h => hne h.symm
      simp only [if_true, e', if_false] at hk hk'
      exact h3 _ _ last (big _ hj') (by omega) k hk hk'
    · by_cases e' : j' = i
      · subst e'
        simp only [if_true, e, if_false] at hk hk'
        exact h3 _ _ (big _ hj) last (by omega) k hk hk'
      · simp only [e, e', if_false] at hk hk'
        exact h3 _ _ (big _ hj) (big _ hj') hne k hk hk'

/-- Those behind are forgotten. -/
theorem Crew.first {l' : List (Thing 0)} (h : Crew U w0 (l ++ l') w) : Crew U w0 l w := by
  obtain ⟨h1, Os, h2, h3⟩ := h
  exact ⟨h1, Os, fun j u hu => h2 j u (by rw [List.getElem?_append_left (List.getElem?_eq_some_iff.1 hu).1]; exact hu), fun i j hi hj => h3 i j (by simp; omega) (by simp; omega)⟩

end

/-- The first one is forgotten. -/
theorem Crew.tail {U : Nat → Prop} {w0 w : World} {l : List (Thing 0)} {t : Thing 0} (h : Crew U w0 (t :: l) w) : Crew U w0 l w := by
  obtain ⟨h1, Os, h2, h3⟩ := h
  exact ⟨h1, fun i => Os (i + 1), fun j u hu => h2 (j + 1) u (by simpa using hu), fun i j hi hj hne => h3 (i + 1) (j + 1) (by simpa using hi) (by simpa using hj) (by omega)⟩

/-- A call that turns one thing, among others. -/
theorem Crew.turn {P : Program} {U : Nat → Prop} {w0 w : World} {l : List (Thing 0)} (h : Crew U w0 l w) (i : Nat) {t t' : Thing 0} (hi : l[i]? = some t) {f : Nat} {args : Array Value} {E : Ending}
    (hc : ∀ O, t.holds O w → (∀ k, O k → U k ∨ w0.heap.size ≤ k) → Calls P f args w fun e w' => e = E ∧ Turns t' O w w') : Calls P f args w fun e w' => e = E ∧ Crew U w0 (l.set i t') w' := by
  obtain ⟨O, ho, hset, _, hU⟩ := h.one hi
  exact (hc O ho hU).mono fun e w' ⟨he, ht⟩ => ⟨he, hset t' w' ht⟩

theorem Crew.look {P : Program} {U : Nat → Prop} {w0 w : World} {l : List (Thing 0)} (h : Crew U w0 l w) (i : Nat) {t : Thing 0} (hi : l[i]? = some t) {f : Nat} {args : Array Value} {Q : Ending → World → Prop}
    (hc : ∀ O, t.holds O w → Calls P f args w Q) : Calls P f args w Q := by
  obtain ⟨O, ho, _⟩ := h.one hi
  exact hc O ho

/-- Several things, held as one. -/
def groupT (l : List (Thing 0)) : Thing 0 where
  holds O w := ∃ Os : Nat → Nat → Prop, (∀ (i : Nat) (t : Thing 0), l[i]? = some t → t.holds (Os i) w) ∧ (∀ i j, i < l.length → j < l.length → i ≠ j → ∀ k, Os i k → Os j k → False) ∧ O = fun k => ∃ i, i < l.length ∧ Os i k
  lt := by
    rintro O w ⟨Os, h1, _, rfl⟩ k ⟨i, hi, hk⟩
    exact (l[i]).lt (h1 i _ (List.getElem?_eq_getElem hi)) k hk
  keep := by
    rintro O w w' ⟨Os, h1, h2, rfl⟩ hk
    exact ⟨Os, fun i t ht => t.keep (h1 i t ht) (fun k h => hk k ⟨i, (List.getElem?_eq_some_iff.1 ht).1, h⟩), h2, rfl⟩

theorem groupT_open {l : List (Thing 0)} {O : Nat → Prop} {w : World} (h : (groupT l).holds O w) : Crew O w l w := by
  obtain ⟨Os, h1, h2, rfl⟩ := h
  exact ⟨Moved.refl _ _, Os, fun i t ht => ⟨h1 i t ht, fun k hk => .inl ⟨i, (List.getElem?_eq_some_iff.1 ht).1, hk⟩⟩, h2⟩

theorem groupT_shut {l : List (Thing 0)} {O : Nat → Prop} {w w' : World} (h : Crew O w l w') : Turns (groupT l) O w w' := by
  obtain ⟨h1, Os, h2, h3⟩ := h
  refine ⟨_, ⟨Os, fun i t ht => (h2 i t ht).1, h3, rfl⟩, h1, ?_⟩
  rintro k ⟨i, hi, hk⟩
  exact (h2 i _ (List.getElem?_eq_getElem hi)).2 k hk

/-- Things that were made one behind the other, held as one. -/
theorem groupT_new {l : List (Thing 0)} {w w' : World} (h : Crew (fun _ => False) w l w') : Fresh (groupT l) w w' := by
  obtain ⟨O, h1, _, h3⟩ := groupT_shut h
  exact ⟨O, h1, h.bel, fun k hk => (h3 k hk).elim False.elim id⟩

/-- A thing of which some value is left open. -/
def exT {α : Type} (f : α → Thing 0) : Thing 0 where
  holds O w := ∃ a, (f a).holds O w
  lt := by
    rintro O w ⟨a, h⟩
    exact (f a).lt h
  keep := by
    rintro O w w' ⟨a, h⟩ hk
    exact ⟨a, (f a).keep h hk⟩

/-- A thing of which something holds besides. -/
def withT (p : Prop) (t : Thing 0) : Thing 0 where
  holds O w := p ∧ t.holds O w
  lt h := t.lt h.2
  keep h hk := ⟨h.1, t.keep h.2 hk⟩

theorem Turns.ex {α : Type} {f : α → Thing 0} {O : Nat → Prop} {w w' : World} (a : α) (h : Turns (f a) O w w') : Turns (exT f) O w w' := by
  obtain ⟨O', h1, h2, h3⟩ := h
  exact ⟨O', ⟨a, h1⟩, h2, h3⟩

theorem Turns.and {p : Prop} {t : Thing 0} {O : Nat → Prop} {w w' : World} (hp : p) (h : Turns t O w w') : Turns (withT p t) O w w' := by
  obtain ⟨O', h1, h2, h3⟩ := h
  exact ⟨O', ⟨hp, h1⟩, h2, h3⟩

theorem Turns.same {t : Thing 0} {O : Nat → Prop} {w : World} (h : t.holds O w) : Turns t O w w := ⟨O, h, Moved.refl _ _, fun _ hk => .inl hk⟩

theorem Fresh.ex {α : Type} {f : α → Thing 0} {w w' : World} (a : α) (h : Fresh (f a) w w') : Fresh (exT f) w w' := by
  obtain ⟨O, h1, h2, h3⟩ := h
  exact ⟨O, ⟨a, h1⟩, h2, h3⟩

theorem Fresh.and {p : Prop} {t : Thing 0} {w w' : World} (hp : p) (h : Fresh t w w') : Fresh (withT p t) w w' := by
  obtain ⟨O, h1, h2, h3⟩ := h
  exact ⟨O, ⟨hp, h1⟩, h2, h3⟩

/-- A block whose cells are known. -/
def blkT (b : Nat) (cs : Array Value) (T : Nat) : Thing 0 where
  holds O w := w.heap[b]? = some (.cells cs T (0, 0)) ∧ O = fun k => k = b
  lt := by
    rintro O w ⟨h, rfl⟩ k rfl
    exact ⟨Nat.zero_le _, (Array.getElem?_eq_some_iff.1 h).1⟩
  keep := by
    rintro O w w' ⟨h, rfl⟩ hk
    exact ⟨(hk b rfl).trans h, rfl⟩

section
variable {U : Nat → Prop} {w0 w : World} {l : List (Thing 0)} {e z g n cap b T : Nat} {xs : List Value} {cs : Array Value}

theorem Crew.at (h : Crew U w0 l w) (i : Nat) (hi : l[i]? = some (blkT b cs T)) {j : Nat} {u : Value} (hu : cs[j]? = some u) : w.cell? ⟨b, j, none⟩ = some u ∧ w.frozen? ⟨b, j, none⟩ = false := by
  obtain ⟨O, ⟨ho, rfl⟩, _⟩ := h.one hi
  exact ⟨(Lib.cell_of_heap ho j).trans hu, Lib.frozen_of_heap ho j⟩

theorem Crew.lt (h : Crew U w0 l w) (i : Nat) (hi : l[i]? = some (blkT b cs T)) : b < w.heap.size := by
  obtain ⟨O, ⟨ho, rfl⟩, _⟩ := h.one hi
  exact (Array.getElem?_eq_some_iff.1 ho).1

theorem Crew.set (h : Crew U w0 l w) (i : Nat) (hi : l[i]? = some (blkT b cs T)) (j : Nat) (u : Value) : Crew U w0 (l.set i (blkT b (cs.setIfInBounds j u) T)) (w.setCell ⟨b, j, none⟩ u) := by
  obtain ⟨O, ⟨ho, rfl⟩, hset, _⟩ := h.one hi
  exact hset _ _ ⟨_, ⟨heap_setCell_same w b j cs T u ho, rfl⟩, (Moved.refl (fun k => k = b) w).setCell (.inl rfl) _ _, fun k hk => .inl hk⟩

theorem Crew.block (h : Crew U w0 l w) (cs : Array Value) (T : Nat) : Crew U w0 (l ++ [blkT w.heap.size cs T]) (w.alloc (.cells cs T)) :=
  h.more (t := blkT w.heap.size cs T) ⟨fun k => k = w.heap.size, ⟨heap_alloc_new w _, rfl⟩, (Below.refl _ w).alloc (Nat.le_refl _) _, fun _ hk => Nat.le_of_eq hk.symm⟩

theorem Crew.cell (h : Crew U w0 l w) (i : Nat) (hi : l[i]? = some (rowT 0 e z (.slice (some ⟨g, 0, none⟩) n cap) n xs)) {j : Nat} {u : Value} (hu : xs[j]? = some u) :
    w.cell? ⟨g, j, none⟩ = some u ∧ w.frozen? ⟨g, j, none⟩ = false := by
  obtain ⟨O, ⟨ho, rfl⟩, _⟩ := h.one hi
  exact own_cell ho hu

theorem Crew.own {v : Value} (h : Crew U w0 l w) (i : Nat) (hi : l[i]? = some (rowT 0 e z v n xs)) : w.ownsRow 0 e z v n xs := by
  obtain ⟨O, ⟨ho, rfl⟩, _⟩ := h.one hi
  exact ho

theorem Crew.put (h : Crew U w0 l w) (i : Nat) (hi : l[i]? = some (rowT 0 e z (.slice (some ⟨g, 0, none⟩) n cap) n xs)) (j : Nat) (u : Value) :
    Crew U w0 (l.set i (rowT 0 e z (.slice (some ⟨g, 0, none⟩) n cap) n (xs.set j u))) (w.setCell ⟨g, j, none⟩ u) := by
  obtain ⟨O, ⟨ho, rfl⟩, hset, _⟩ := h.one hi
  exact hset (rowT 0 e z (.slice (some ⟨g, 0, none⟩) n cap) n (xs.set j u)) _ ⟨_, ⟨own_put ho u, rfl⟩, (Moved.refl (fun k => (Value.slice (some ⟨g, 0, none⟩) n cap).ownBlock = some k) w).setCell (b := g) (.inl rfl) _ _, fun k hk => .inl hk⟩

theorem Crew.made (h : Crew U w0 l w) (C : Array Value) (e n : Nat) (hn : C.size = n) (hm : n ≤ 1000000) :
    Crew U w0 (l ++ [rowT 0 e 1 (.slice (some ⟨w.heap.size, 0, none⟩) n n) n C.toList]) (w.alloc (.cells C e)) := by
  subst hn
  refine h.more (t := rowT 0 e 1 (.slice (some ⟨w.heap.size, 0, none⟩) C.size C.size) C.size C.toList) ⟨_, ⟨⟨by simp, .inr ⟨w.heap.size, C.size, C, rfl, Nat.zero_le _, heap_alloc_new w _, Nat.le_refl _, by unfold maxLen; omega, by simp, ?_⟩⟩, rfl⟩, (Below.refl _ w).alloc (Nat.le_refl _) _, fun k hk => by simp [Value.ownBlock] at hk; omega⟩
  exact List.take_of_length_le (by simp)

theorem Crew.nil (h : Crew U w0 l w) (e z : Nat) : Crew U w0 (l ++ [rowT 0 e z (.slice none 0 0) 0 []]) w :=
  h.more (t := rowT 0 e z (.slice none 0 0) 0 []) ⟨fun k => (Value.slice none 0 0).ownBlock = some k, ⟨World.ownsRow_nil _ _ _ _, rfl⟩, Below.refl _ _, fun k hk => by simp [Value.ownBlock] at hk⟩

theorem Crew.empty (h : Crew U w0 l w) (e z : Nat) : Crew U w0 (l ++ [rowT 0 e z (.slice (some ⟨w.heap.size, 0, none⟩) 0 0) 0 []]) (w.alloc (.cells #[] e)) :=
  h.more (t := rowT 0 e z (.slice (some ⟨w.heap.size, 0, none⟩) 0 0) 0 []) ⟨_, ⟨World.ownsRow_made w #[] 0 (Nat.zero_le _) (Nat.zero_le _) (by simp), rfl⟩, (Below.refl _ w).alloc (Nat.le_refl _) _, fun k hk => by simp [Value.ownBlock] at hk; omega⟩

theorem Crew.slice {v : Value} (h : Crew U w0 l w) (i : Nat) (hi : l[i]? = some (rowT 0 e z v n xs)) : ∃ a c, v = .slice a n c := own_slice (h.own i hi)

/-- A row that is not empty lies in a block of its own. -/
theorem Crew.held {v : Value} (h : Crew U w0 l w) (i : Nat) (hi : l[i]? = some (rowT 0 e z v n xs)) (hn : 0 < n) : ∃ g c, v = .slice (some ⟨g, 0, none⟩) n c := by
  rcases (h.own i hi).2 with ⟨_, h0⟩ | ⟨g, c, _, hv, _⟩
  · omega
  · exact ⟨g, c, hv⟩

/-- 'append' to a row that is one of several things. -/
theorem run_append_crew {P : Program} (h : Crew U w0 l w) (i : Nat) {v : Value} (hi : l[i]? = some (rowT 0 e z v n xs)) (t ty : TypeId)
    (zv : Value) (bytes : Nat) (ht : P.underlying t = some (.slice e)) (hinfo : (P.info? e).map (fun i => (i.zero, i.size, i.bytes)) = some (some zv, z, bytes)) (hzs : zv.cells.size = z) (hsz : 0 < z)
    (ad : Addr) (m c : Nat) (news : List Value) (hl : news.length = m * z) (hnews : ∀ j u, news[j]? = some u → w.cell? (ad.add j) = some u) (h1 : ∀ u ∈ news, u.oneCell' = true)
    (h63 : n + m ≤ maxLen) (hbytes : (n + m) * bytes ≤ 140737488355328) :
    ∃ v' w', (Builtin.append_ #[t, t] ty #[v, .slice (some ad) m c]).run P w = .ok v' w' ∧ Crew U w0 (l.set i (rowT 0 e z v' (n + m) (xs ++ news))) w' := by
  obtain ⟨O, ⟨ho', rfl⟩, hset, _⟩ := h.one hi
  obtain ⟨i0, hi0, hz0, hz1, hz2⟩ := info_parts hinfo
  obtain ⟨v', w', hr, h2, h3, h4⟩ := run_append_own2 (P := P) w 0 t ty e i0 zv z bytes ht hi0 hz0 hz1 hz2 hzs hsz v n xs ho' ad m c news hl hnews h1 h63 hbytes (Nat.zero_le _)
  exact ⟨v', w', hr, hset (rowT 0 e z v' (n + m) (xs ++ news)) w' ⟨_, ⟨h2, rfl⟩, (Moved.refl _ w).grown h3 (fun k hk => .inl hk), h4⟩⟩

theorem wpList_append_crew {P : Program} {ops : Array Oper} {rest : List Oper} {o : Oper} {a : Act} {Q : Exit → Act → World → Prop} (h : Crew U w0 l w) (i : Nat) {v : Value} (hi : l[i]? = some (rowT 0 e z v n xs)) (hgd : o.guard = none) (s x : Operand) (t : TypeId)
    (ho : o.op = .call { callee := .builtin .append, args := #[s, x], argTypes := #[t, t] }) (zv : Value) (bytes : Nat) (ht : P.underlying t = some (.slice e)) (hinfo : (P.info? e).map (fun i => (i.zero, i.size, i.bytes)) = some (some zv, z, bytes)) (hzs : zv.cells.size = z) (hsz : 0 < z)
    (hs : a.eval s = v) (ad : Addr) (m c : Nat) (news : List Value) (hx : a.eval x = .slice (some ad) m c) (hl : news.length = m * z) (hnews : ∀ j u, news[j]? = some u → w.cell? (ad.add j) = some u) (h1 : ∀ u ∈ news, u.oneCell' = true)
    (h63 : n + m ≤ maxLen) (hbytes : (n + m) * bytes ≤ 140737488355328)
    (hK : ∀ v' w', Crew U w0 (l.set i (rowT 0 e z v' (n + m) (xs ++ news))) w' → wpList P ops Q rest (a.put o.dst v') w') : wpList P ops Q (o :: rest) a w := by
  obtain ⟨v', w', hr, h2⟩ := run_append_crew (P := P) h i hi t o.type zv bytes ht hinfo hzs hsz ad m c news hl hnews h1 h63 hbytes
  refine wpList_plain hgd fun K hK' => ?_
  unfold Oper.wp execOp
  simp only [ho, resolve, invoke, builtin, Sem.run_bind, Sem.run_pure, Result.andThen_ok, List.map_toArray, List.map_cons, List.map_nil, hs, hx, hr]
  exact hK' _ _ (hK v' w' h2)

/-- The thing that stands last is handed on: what was made. -/
theorem Crew.fresh {t : Thing 0} (h : Crew (fun _ => False) w0 [t] w) : Fresh t w0 w := by
  obtain ⟨O, ho, _, _, hU⟩ := h.one (i := 0) rfl
  exact ⟨O, ho, h.bel, fun k hk => (hU k hk).elim False.elim id⟩

end

end Go.Proofs.Ytnknojkihjpjkaa
