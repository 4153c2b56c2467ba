/-
  Several things in memory that share nothing, in a world that but for some blocks is as it was: one at a time is changed; several may be held as one. Conditions: as each theorem states them.
  A range over a function: what an iterator gives, one behind the other, and what becomes of the things that the loop's body turns; the iterator reads some blocks, the body turns others. Conditions: as each theorem states them.
-/
import Derived.Test.YteellffkjjllgaaK2
import Derived.RangeFuncNested
import Derived.RangeFuncBound
import Derived.RangeFuncCalls
import Derived.OwnWalkIn
namespace Go.Proofs.Yteellffkjjllgaa
open Go.RowKit

/-- What becomes of a thing: t' now, and but for its own blocks all is as it was. -/
def Turns (t' : Thing 0) (O : Nat → Prop) (w w' : World) : Prop := ∃ O', t'.holds O' w' ∧ Moved O w w' ∧ ∀ k, O' k → O k ∨ w.heap.size ≤ k

/-- A thing that is made, in new memory. -/
def Fresh (t : Thing 0) (w w' : World) : Prop := ∃ O, t.holds O w' ∧ Below w.heap.size w w' ∧ ∀ k, O k → w.heap.size ≤ k

/-- Things that share nothing; but for the blocks of U all that was there in w0 is as it was. -/
structure Crew (U : Nat → Prop) (w0 : World) (l : List (Thing 0)) (w : World) : Prop where
  mv : Moved U w0 w
  each : ∃ Os : Nat → Nat → Prop, (∀ (i : Nat) (t : Thing 0), l[i]? = some t → t.holds (Os i) w ∧ ∀ k, Os i k → U k ∨ w0.heap.size ≤ k) ∧ ∀ i j, i < l.length → j < l.length → i ≠ j → ∀ k, Os i k → Os j k → False

section
variable {U : Nat → Prop} {w0 w w' : World} {l : List (Thing 0)}

theorem Crew.start (w : World) : Crew (fun _ => False) w [] w := ⟨Moved.refl _ _, fun _ _ => False, fun i t h => by simp at h, fun i j h => by simp at h⟩

theorem Crew.bel (h : Crew (fun _ => False) w0 l w) : Below w0.heap.size w0 w := h.mv.below (Nat.le_refl _) (fun _ hk => hk.elim)

theorem Crew.size (h : Crew U w0 l w) : w0.heap.size ≤ w.heap.size := h.mv.size

theorem Crew.below (h : Crew U w0 l w) (hb : Below w.heap.size w w') : Crew U w0 l w' := by
  obtain ⟨h1, Os, h2, h3⟩ := h
  refine ⟨h1.trans (O' := fun _ => False) (.of_below _ hb) (fun _ h => h.elim), Os, fun i t ht => ⟨t.keep (h2 i t ht).1 (fun k hk => hb.block k ((t.lt (h2 i t ht).1 k hk).2)), (h2 i t ht).2⟩, h3⟩

theorem Crew.one (h : Crew U w0 l w) {i : Nat} {t : Thing 0} (hi : l[i]? = some t) :
    ∃ O, t.holds O w ∧ (∀ (t' : Thing 0) (w' : World), Turns t' O w w' → Crew U w0 (l.set i t') w') ∧
      (∀ (j : Nat) (u : Thing 0), j ≠ i → l[j]? = some u → ∃ O2, u.holds O2 w ∧ ∀ k, O2 k → O k → False) ∧ ∀ k, O k → U k ∨ w0.heap.size ≤ k := by
  have hsz := h.size
  obtain ⟨h1, Os, h2, h3⟩ := h
  have hil : i < l.length := (List.getElem?_eq_some_iff.1 hi).1
  refine ⟨Os i, (h2 i t hi).1, ?_, fun j u hne hu => ⟨Os j, (h2 j u hu).1, h3 j i (List.getElem?_eq_some_iff.1 hu).1 hil hne⟩, (h2 i t hi).2⟩
  rintro t' w' ⟨O', ht', hm, hO⟩
  have lim : ∀ k, O' k → U k ∨ w0.heap.size ≤ k := fun k hk => (hO k hk).elim ((h2 i t hi).2 k) (fun h => .inr (Nat.le_trans hsz h))
  refine ⟨h1.trans hm (fun k hk => (h2 i t hi).2 k hk), fun j k => if j = i then O' k else Os j k, fun j u hu => ?_, fun j j' hj hj' hne k hk hk' => ?_⟩
  · by_cases e : j = i
    · subst e
      rw [List.getElem?_set_self hil] at hu
      cases hu
      simpa using ⟨ht', lim⟩
    · rw [List.getElem?_set_ne (fun h => e h.symm)] at hu
      have := h2 j u hu
      simp only [e, if_false]
      exact ⟨u.keep this.1 (fun k hk => hm.block k (u.lt this.1 k hk).2 (fun ho => h3 j i (List.getElem?_eq_some_iff.1 hu).1 hil e k hk ho)), this.2⟩
  · simp only [List.length_set] at hj hj'
    have aux : ∀ j, j < l.length → ∀ k, Os j k → k < w.heap.size := fun j hj k hk => by
      obtain ⟨u, hu⟩ : ∃ u, l[j]? = some u := ⟨_, List.getElem?_eq_getElem hj⟩
      exact (u.lt (h2 j u hu).1 k hk).2
    by_cases e : j = i
    · subst e
      have e' : j' ≠ j := fun h => hne h.symm
      simp only [if_true, e', if_false] at hk hk'
      rcases hO k hk with ho | ho
      · exact h3 j j' hj hj' hne k ho hk'
      · have := aux j' hj' k hk'; omega
    · by_cases e' : j' = i
      · subst e'
        simp only [if_true, e, if_false] at hk hk'
        rcases hO k hk' with ho | ho
        · exact h3 j j' hj hj' hne k hk ho
        · have := aux j hj k hk; omega
      · simp only [e, e', if_false] at hk hk'
        exact h3 j j' hj hj' hne k hk hk'

theorem Crew.more (h : Crew U w0 l w) {t : Thing 0} (hf : Fresh t w w') : Crew U w0 (l ++ [t]) w' := by
  obtain ⟨O, ht, hb, hO⟩ := hf
  have hsz := h.size
  obtain ⟨h1, Os, h2, h3⟩ := h
  have aux : ∀ i, i < l.length → ∀ k, Os i k → k < w.heap.size := fun i hi k hk => by
    obtain ⟨u, hu⟩ : ∃ u, l[i]? = some u := ⟨_, List.getElem?_eq_getElem hi⟩
    exact (u.lt (h2 i u hu).1 k hk).2
  refine ⟨h1.trans (O' := fun _ => False) (.of_below _ hb) (fun _ h => h.elim), fun j k => if j = l.length then O k else Os j k, fun j u hu => ?_, fun j j' hj hj' hne k hk hk' => ?_⟩
  · by_cases e : j = l.length
    · subst e
      simp at hu
      subst hu
      simp only [if_true]
      exact ⟨ht, fun k hk => .inr (Nat.le_trans hsz (hO k hk))⟩
    · have hj : j < l.length := by
        have := (List.getElem?_eq_some_iff.1 hu).1
        simp at this
        omega
      rw [List.getElem?_append_left hj] at hu
      simp only [e, if_false]
      have := h2 j u hu
      exact ⟨u.keep this.1 (fun k hk => hb.block k (u.lt this.1 k hk).2), this.2⟩
  · simp only [List.length_append, List.length_singleton] at hj hj'
    by_cases e : j = l.length
    · have e' : j' ≠ l.length := fun h => hne (e.trans h.symm)
      simp only [e, e', if_true, if_false] at hk hk'
      have := hO k hk
      have := aux j' (by omega) k hk'
      omega
    · by_cases e' : j' = l.length
      · simp only [e, e', if_true, if_false] at hk hk'
        have := hO k hk'
        have := aux j (by omega) k hk
        omega
      · simp only [e, e', if_false] at hk hk'
        exact h3 j j' (by omega) (by omega) hne k hk hk'

/-- The last one takes the place of another one, which is forgotten. -/
theorem Crew.swap {t : Thing 0} (h : Crew U w0 (l ++ [t]) w) (i : Nat) (hi : i < l.length) : Crew U w0 (l.set i t) w := by
  obtain ⟨h1, Os, h2, h3⟩ := h
  refine ⟨h1, fun j => if j = i then Os l.length else Os j, fun j u hu => ?_, fun j j' hj hj' hne k hk hk' => ?_⟩
  · by_cases e : j = i
    · subst e
      rw [List.getElem?_set_self hi] at hu
      cases hu
      simp only [if_true]
      exact h2 l.length t (by simp)
    · rw [List.getElem?_set_ne (fun h => e h.symm)] at hu
      simp only [e, if_false]
      exact h2 j u (by rw [List.getElem?_append_left (List.getElem?_eq_some_iff.1 hu).1]; exact hu)
  · simp only [List.length_set] at hj hj'
    have big : ∀ i, i < l.length → i < (l ++ [t]).length := fun i hi => by simp; omega
    have last : l.length < (l ++ [t]).length := by simp
    by_cases e : j = i
    · subst e
      have e' : j' ≠ j := fun h => hne h.symm
      simp only [if_true, e', if_false] at hk hk'
      exact h3 _ _ last (big _ hj') (by omega) k hk hk'
    · by_cases e' : j' = i
      · subst e'
        simp only [if_true, e, if_false] at hk hk'
        exact h3 _ _ (big _ hj) last (by omega) k hk hk'
      · simp only [e, e', if_false] at hk hk'
        exact h3 _ _ (big _ hj) (big _ hj') hne k hk hk'

/-- Those behind are forgotten. -/
theorem Crew.first {l' : List (Thing 0)} (h : Crew U w0 (l ++ l') w) : Crew U w0 l w := by
  obtain ⟨h1, Os, h2, h3⟩ := h
  exact ⟨h1, Os, fun j u hu => h2 j u (by rw [List.getElem?_append_left (List.getElem?_eq_some_iff.1 hu).1]; exact hu), fun i j hi hj => h3 i j (by simp; omega) (by simp; omega)⟩

end

/-- The first one is forgotten. -/
theorem Crew.tail {U : Nat → Prop} {w0 w : World} {l : List (Thing 0)} {t : Thing 0} (h : Crew U w0 (t :: l) w) : Crew U w0 l w := by
  obtain ⟨h1, Os, h2, h3⟩ := h
  exact ⟨h1, fun i => Os (i + 1), fun j u hu => h2 (j + 1) u (by simpa using hu), fun i j hi hj hne => h3 (i + 1) (j + 1) (by simpa using hi) (by simpa using hj) (by omega)⟩

/-- A call that turns one thing, among others. -/
theorem Crew.turn {P : Program} {U : Nat → Prop} {w0 w : World} {l : List (Thing 0)} (h : Crew U w0 l w) (i : Nat) {t t' : Thing 0} (hi : l[i]? = some t) {f : Nat} {args : Array Value} {E : Ending}
    (hc : ∀ O, t.holds O w → (∀ k, O k → U k ∨ w0.heap.size ≤ k) → Calls P f args w fun e w' => e = E ∧ Turns t' O w w') : Calls P f args w fun e w' => e = E ∧ Crew U w0 (l.set i t') w' := by
  obtain ⟨O, ho, hset, _, hU⟩ := h.one hi
  exact (hc O ho hU).mono fun e w' ⟨he, ht⟩ => ⟨he, hset t' w' ht⟩

theorem Crew.look {P : Program} {U : Nat → Prop} {w0 w : World} {l : List (Thing 0)} (h : Crew U w0 l w) (i : Nat) {t : Thing 0} (hi : l[i]? = some t) {f : Nat} {args : Array Value} {Q : Ending → World → Prop}
    (hc : ∀ O, t.holds O w → Calls P f args w Q) : Calls P f args w Q := by
  obtain ⟨O, ho, _⟩ := h.one hi
  exact hc O ho

/-- Several things, held as one. -/
def groupT (l : List (Thing 0)) : Thing 0 where
  holds O w := ∃ Os : Nat → Nat → Prop, (∀ (i : Nat) (t : Thing 0), l[i]? = some t → t.holds (Os i) w) ∧ (∀ i j, i < l.length → j < l.length → i ≠ j → ∀ k, Os i k → Os j k → False) ∧ O = fun k => ∃ i, i < l.length ∧ Os i k
  lt := by
    rintro O w ⟨Os, h1, _, rfl⟩ k ⟨i, hi, hk⟩
    exact (l[i]).lt (h1 i _ (List.getElem?_eq_getElem hi)) k hk
  keep := by
    rintro O w w' ⟨Os, h1, h2, rfl⟩ hk
    exact ⟨Os, fun i t ht => t.keep (h1 i t ht) (fun k h => hk k ⟨i, (List.getElem?_eq_some_iff.1 ht).1, h⟩), h2, rfl⟩

theorem groupT_open {l : List (Thing 0)} {O : Nat → Prop} {w : World} (h : (groupT l).holds O w) : Crew O w l w := by
  obtain ⟨Os, h1, h2, rfl⟩ := h
  exact ⟨Moved.refl _ _, Os, fun i t ht => ⟨h1 i t ht, fun k hk => .inl ⟨i, (List.getElem?_eq_some_iff.1 ht).1, hk⟩⟩, h2⟩

theorem groupT_shut {l : List (Thing 0)} {O : Nat → Prop} {w w' : World} (h : Crew O w l w') : Turns (groupT l) O w w' := by
  obtain ⟨h1, Os, h2, h3⟩ := h
  refine ⟨_, ⟨Os, fun i t ht => (h2 i t ht).1, h3, rfl⟩, h1, ?_⟩
  rintro k ⟨i, hi, hk⟩
  exact (h2 i _ (List.getElem?_eq_getElem hi)).2 k hk

/-- Things that were made one behind the other, held as one. -/
theorem groupT_new {l : List (Thing 0)} {w w' : World} (h : Crew (fun _ => False) w l w') : Fresh (groupT l) w w' := by
  obtain ⟨O, h1, _, h3⟩ := groupT_shut h
  exact ⟨O, h1, h.bel, fun k hk => (h3 k hk).elim False.elim id⟩

/-- A thing of which some value is left open. -/
def exT {α : Type} (f : α → Thing 0) : Thing 0 where
  holds O w := ∃ a, (f a).holds O w
  lt := by
    rintro O w ⟨a, h⟩
    exact (f a).lt h
  keep := by
    rintro O w w' ⟨a, h⟩ hk
    exact ⟨a, (f a).keep h hk⟩

/-- A thing of which something holds besides. -/
def withT (p : Prop) (t : Thing 0) : Thing 0 where
  holds O w := p ∧ t.holds O w
  lt h := t.lt h.2
  keep h hk := ⟨h.1, t.keep h.2 hk⟩

theorem Turns.ex {α : Type} {f : α → Thing 0} {O : Nat → Prop} {w w' : World} (a : α) (h : Turns (f a) O w w') : Turns (exT f) O w w' := by
  obtain ⟨O', h1, h2, h3⟩ := h
  exact ⟨O', ⟨a, h1⟩, h2, h3⟩

theorem Turns.and {p : Prop} {t : Thing 0} {O : Nat → Prop} {w w' : World} (hp : p) (h : Turns t O w w') : Turns (withT p t) O w w' := by
  obtain ⟨O', h1, h2, h3⟩ := h
  exact ⟨O', ⟨hp, h1⟩, h2, h3⟩

theorem Turns.same {t : Thing 0} {O : Nat → Prop} {w : World} (h : t.holds O w) : Turns t O w w := ⟨O, h, Moved.refl _ _, fun _ hk => .inl hk⟩

theorem Fresh.ex {α : Type} {f : α → Thing 0} {w w' : World} (a : α) (h : Fresh (f a) w w') : Fresh (exT f) w w' := by
  obtain ⟨O, h1, h2, h3⟩ := h
  exact ⟨O, ⟨a, h1⟩, h2, h3⟩

theorem Fresh.and {p : Prop} {t : Thing 0} {w w' : World} (hp : p) (h : Fresh t w w') : Fresh (withT p t) w w' := by
  obtain ⟨O, h1, h2, h3⟩ := h
  exact ⟨O, ⟨hp, h1⟩, h2, h3⟩

/-- A block whose cells are known. -/
def blkT (b : Nat) (cs : Array Value) (T : Nat) : Thing 0 where
  holds O w := w.heap[b]? = some (.cells cs T (0, 0)) ∧ O = fun k => k = b
  lt := by
    rintro O w ⟨h, rfl⟩ k rfl
    exact ⟨Nat.zero_le _, (Array.getElem?_eq_some_iff.1 h).1⟩
  keep := by
    rintro O w w' ⟨h, rfl⟩ hk
    exact ⟨(hk b rfl).trans h, rfl⟩

section
variable {U : Nat → Prop} {w0 w : World} {l : List (Thing 0)} {e z g n cap b T : Nat} {xs : List Value} {cs : Array Value}

theorem Crew.at (h : Crew U w0 l w) (i : Nat) (hi : l[i]? = some (blkT b cs T)) {j : Nat} {u : Value} (hu : cs[j]? = some u) : w.cell? ⟨b, j, none⟩ = some u ∧ w.frozen? ⟨b, j, none⟩ = false := by
  obtain ⟨O, ⟨ho, rfl⟩, _⟩ := h.one hi
  exact ⟨(Lib.cell_of_heap ho j).trans hu, Lib.frozen_of_heap ho j⟩

theorem Crew.lt (h : Crew U w0 l w) (i : Nat) (hi : l[i]? = some (blkT b cs T)) : b < w.heap.size := by
  obtain ⟨O, ⟨ho, rfl⟩, _⟩ := h.one hi
  exact (Array.getElem?_eq_some_iff.1 ho).1

theorem Crew.set (h : Crew U w0 l w) (i : Nat) (hi : l[i]? = some (blkT b cs T)) (j : Nat) (u : Value) : Crew U w0 (l.set i (blkT b (cs.setIfInBounds j u) T)) (w.setCell ⟨b, j, none⟩ u) := by
  obtain ⟨O, ⟨ho, rfl⟩, hset, _⟩ := h.one hi
  exact hset _ _ ⟨_, ⟨heap_setCell_same w b j cs T u ho, rfl⟩, (Moved.refl (fun k => k = b) w).setCell (.inl rfl) _ _, fun k hk => .inl hk⟩

theorem Crew.block (h : Crew U w0 l w) (cs : Array Value) (T : Nat) : Crew U w0 (l ++ [blkT w.heap.size cs T]) (w.alloc (.cells cs T)) :=
  h.more (t := blkT w.heap.size cs T) ⟨fun k => k = w.heap.size, ⟨heap_alloc_new w _, rfl⟩, (Below.refl _ w).alloc (Nat.le_refl _) _, fun _ hk => Nat.le_of_eq hk.symm⟩

theorem Crew.cell (h : Crew U w0 l w) (i : Nat) (hi : l[i]? = some (rowT 0 e z (.slice (some ⟨g, 0, none⟩) n cap) n xs)) {j : Nat} {u : Value} (hu : xs[j]? = some u) :
    w.cell? ⟨g, j, none⟩ = some u ∧ w.frozen? ⟨g, j, none⟩ = false := by
  obtain ⟨O, ⟨ho, rfl⟩, _⟩ := h.one hi
  exact own_cell ho hu

theorem Crew.own {v : Value} (h : Crew U w0 l w) (i : Nat) (hi : l[i]? = some (rowT 0 e z v n xs)) : w.ownsRow 0 e z v n xs := by
  obtain ⟨O, ⟨ho, rfl⟩, _⟩ := h.one hi
  exact ho

theorem Crew.put (h : Crew U w0 l w) (i : Nat) (hi : l[i]? = some (rowT 0 e z (.slice (some ⟨g, 0, none⟩) n cap) n xs)) (j : Nat) (u : Value) :
    Crew U w0 (l.set i (rowT 0 e z (.slice (some ⟨g, 0, none⟩) n cap) n (xs.set j u))) (w.setCell ⟨g, j, none⟩ u) := by
  obtain ⟨O, ⟨ho, rfl⟩, hset, _⟩ := h.one hi
  exact hset (rowT 0 e z (.slice (some ⟨g, 0, none⟩) n cap) n (xs.set j u)) _ ⟨_, ⟨own_put ho u, rfl⟩, (Moved.refl (fun k => (Value.slice (some ⟨g, 0, none⟩) n cap).ownBlock = some k) w).setCell (b := g) (.inl rfl) _ _, fun k hk => .inl hk⟩

theorem Crew.made (h : Crew U w0 l w) (C : Array Value) (e n : Nat) (hn : C.size = n) (hm : n ≤ 1000000) :
    Crew U w0 (l ++ [rowT 0 e 1 (.slice (some ⟨w.heap.size, 0, none⟩) n n) n C.toList]) (w.alloc (.cells C e)) := by
  subst hn
  refine h.more (t := rowT 0 e 1 (.slice (some ⟨w.heap.size, 0, none⟩) C.size C.size) C.size C.toList) ⟨_, ⟨⟨by simp, .inr ⟨w.heap.size, C.size, C, rfl, Nat.zero_le _, heap_alloc_new w _, Nat.le_refl _, by unfold maxLen; omega, by simp, ?_⟩⟩, rfl⟩, (Below.refl _ w).alloc (Nat.le_refl _) _, fun k hk => by simp [Value.ownBlock] at hk; omega⟩
  exact List.take_of_length_le (by simp)

theorem Crew.nil (h : Crew U w0 l w) (e z : Nat) : Crew U w0 (l ++ [rowT 0 e z (.slice none 0 0) 0 []]) w :=
  h.more (t := rowT 0 e z (.slice none 0 0) 0 []) ⟨fun k => (Value.slice none 0 0).ownBlock = some k, ⟨World.ownsRow_nil _ _ _ _, rfl⟩, Below.refl _ _, fun k hk => by simp [Value.ownBlock] at hk⟩

theorem Crew.empty (h : Crew U w0 l w) (e z : Nat) : Crew U w0 (l ++ [rowT 0 e z (.slice (some ⟨w.heap.size, 0, none⟩) 0 0) 0 []]) (w.alloc (.cells #[] e)) :=
  h.more (t := rowT 0 e z (.slice (some ⟨w.heap.size, 0, none⟩) 0 0) 0 []) ⟨_, ⟨World.ownsRow_made w #[] 0 (Nat.zero_le _) (Nat.zero_le _) (by simp), rfl⟩, (Below.refl _ w).alloc (Nat.le_refl _) _, fun k hk => by simp [Value.ownBlock] at hk; omega⟩

theorem Crew.slice {v : Value} (h : Crew U w0 l w) (i : Nat) (hi : l[i]? = some (rowT 0 e z v n xs)) : ∃ a c, v = .slice a n c := own_slice (h.own i hi)

/-- A row that is not empty lies in a block of its own. -/
theorem Crew.held {v : Value} (h : Crew U w0 l w) (i : Nat) (hi : l[i]? = some (rowT 0 e z v n xs)) (hn : 0 < n) : ∃ g c, v = .slice (some ⟨g, 0, none⟩) n c := by
  rcases (h.own i hi).2 with ⟨_, h0⟩ | ⟨g, c, _, hv, _⟩
  · omega
  · exact ⟨g, c, hv⟩

/-- 'append' to a row that is one of several things. -/
theorem run_append_crew {P : Program} (h : Crew U w0 l w) (i : Nat) {v : Value} (hi : l[i]? = some (rowT 0 e z v n xs)) (t ty : TypeId)
    (zv : Value) (bytes : Nat) (ht : P.underlying t = some (.slice e)) (hinfo : (P.info? e).map (fun i => (i.zero, i.size, i.bytes)) = some (some zv, z, bytes)) (hzs : zv.cells.size = z) (hsz : 0 < z)
    (ad : Addr) (m c : Nat) (news : List Value) (hl : news.length = m * z) (hnews : ∀ j u, news[j]? = some u → w.cell? (ad.add j) = some u) (h1 : ∀ u ∈ news, u.oneCell' = true)
    (h63 : n + m ≤ maxLen) (hbytes : (n + m) * bytes ≤ 140737488355328) :
    ∃ v' w', (Builtin.append_ #[t, t] ty #[v, .slice (some ad) m c]).run P w = .ok v' w' ∧ Crew U w0 (l.set i (rowT 0 e z v' (n + m) (xs ++ news))) w' := by
  obtain ⟨O, ⟨ho', rfl⟩, hset, _⟩ := h.one hi
  obtain ⟨i0, hi0, hz0, hz1, hz2⟩ := info_parts hinfo
  obtain ⟨v', w', hr, h2, h3, h4⟩ := run_append_own2 (P := P) w 0 t ty e i0 zv z bytes ht hi0 hz0 hz1 hz2 hzs hsz v n xs ho' ad m c news hl hnews h1 h63 hbytes (Nat.zero_le _)
  exact ⟨v', w', hr, hset (rowT 0 e z v' (n + m) (xs ++ news)) w' ⟨_, ⟨h2, rfl⟩, (Moved.refl _ w).grown h3 (fun k hk => .inl hk), h4⟩⟩

theorem wpList_append_crew {P : Program} {ops : Array Oper} {rest : List Oper} {o : Oper} {a : Act} {Q : Exit → Act → World → Prop} (h : Crew U w0 l w) (i : Nat) {v : Value} (hi : l[i]? = some (rowT 0 e z v n xs)) (hgd : o.guard = none) (s x : Operand) (t : TypeId)
    (ho : o.op = .call { callee := .builtin .append, args := #[s, x], argTypes := #[t, t] }) (zv : Value) (bytes : Nat) (ht : P.underlying t = some (.slice e)) (hinfo : (P.info? e).map (fun i => (i.zero, i.size, i.bytes)) = some (some zv, z, bytes)) (hzs : zv.cells.size = z) (hsz : 0 < z)
    (hs : a.eval s = v) (ad : Addr) (m c : Nat) (news : List Value) (hx : a.eval x = .slice (some ad) m c) (hl : news.length = m * z) (hnews : ∀ j u, news[j]? = some u → w.cell? (ad.add j) = some u) (h1 : ∀ u ∈ news, u.oneCell' = true)
    (h63 : n + m ≤ maxLen) (hbytes : (n + m) * bytes ≤ 140737488355328)
    (hK : ∀ v' w', Crew U w0 (l.set i (rowT 0 e z v' (n + m) (xs ++ news))) w' → wpList P ops Q rest (a.put o.dst v') w') : wpList P ops Q (o :: rest) a w := by
  obtain ⟨v', w', hr, h2⟩ := run_append_crew (P := P) h i hi t o.type zv bytes ht hinfo hzs hsz ad m c news hl hnews h1 h63 hbytes
  refine wpList_plain hgd fun K hK' => ?_
  unfold Oper.wp execOp
  simp only [ho, resolve, invoke, builtin, Sem.run_bind, Sem.run_pure, Result.andThen_ok, List.map_toArray, List.map_cons, List.map_nil, hs, hx, hr]
  exact hK' _ _ (hK v' w' h2)

/-- The thing that stands last is handed on: what was made. -/
theorem Crew.fresh {t : Thing 0} (h : Crew (fun _ => False) w0 [t] w) : Fresh t w0 w := by
  obtain ⟨O, ho, _, _, hU⟩ := h.one (i := 0) rfl
  exact ⟨O, ho, h.bel, fun k hk => (hU k hk).elim False.elim id⟩

end

end Go.Proofs.Yteellffkjjllgaa

namespace Go.Proofs.Yteellffkjjllgaa
open Go.RowKit

theorem yield_any {m m' : Nat} {P : Program} {l : Nat} {args : Array Value} {W : World} {R : Ending → World → Prop} (h : YieldAt Fence.wide m P l args W R) : YieldAt Fence.wide m' P l args W R := by
  obtain ⟨fn, tmps, assign, body, hy, hR⟩ := h
  exact ⟨fn, tmps, assign, body, hy, hR.1, fun c cs _ => hR.2 c cs (room_wide _)⟩

theorem results_cell1 {P : Program} {fn : Func} {p : Tmp} {ty : TypeId} (h : fn.results = #[.cell p ty]) (tmps : Array Value) (w : World) (ad : Addr) (v : Value) (hp : tmps.getD p undef = .pointer (some ad)) (ha : ∀ w, (isAgg ty).run P w = .ok false w) (hc : w.cell? ad = some v) :
    (results fn tmps).run P w = .ok v w := by
  have hp' : tmps[p]?.getD undef = .pointer (some ad) := by simpa using hp
  simp [results, h, hp', asAddr, loadVar, Sem.run_bind, ha, hc, Result.andThen]

theorem results_cell2 {P : Program} {fn : Func} {p q : Tmp} {ty tq : TypeId} (h : fn.results = #[.cell p ty, .cell q tq]) (tmps : Array Value) (w : World) (ad ad' : Addr) (v v' : Value) (hp : tmps.getD p undef = .pointer (some ad)) (hq : tmps.getD q undef = .pointer (some ad'))
    (ha : ∀ w, (isAgg ty).run P w = .ok false w) (ha' : ∀ w, (isAgg tq).run P w = .ok false w) (hc : w.cell? ad = some v) (hc' : w.cell? ad' = some v') :
    (results fn tmps).run P w = .ok (.tuple #[v, v']) w := by
  have hp' : tmps[p]?.getD undef = .pointer (some ad) := by simpa using hp
  have hq' : tmps[q]?.getD undef = .pointer (some ad') := by simpa using hq
  simp [results, h, hp', hq', asAddr, loadVar, Sem.run_bind, ha, ha', hc, hc', Result.andThen]

/-- A block that holds a known object. -/
def objT (b : Nat) (o : Obj) : Thing 0 where
  holds O w := w.heap[b]? = some o ∧ O = fun k => k = b
  lt := by
    rintro O w ⟨h, rfl⟩ k rfl
    exact ⟨Nat.zero_le _, (Array.getElem?_eq_some_iff.1 h).1⟩
  keep := by
    rintro O w w' ⟨h, rfl⟩ hk
    exact ⟨(hk b rfl).trans h, rfl⟩

section
variable {U : Nat → Prop} {w0 w : World} {l : List (Thing 0)} {t : Thing 0} {b : Nat} {o : Obj}

theorem Moved.putObj {O : Nat → Prop} {u v : World} (h : Moved O u v) {b : Nat} (hb : O b ∨ u.heap.size ≤ b) (o : Obj) : Moved O u (v.putObj b o) :=
  h.trans (O' := fun k => k = b) ⟨rfl, rfl, rfl, by simp, fun k _ hn => World.putObj_heap_other hn⟩ (fun i hi => hi ▸ hb)

theorem Crew.obj (h : Crew U w0 l w) (i : Nat) (hi : l[i]? = some (objT b o)) : w.heap[b]? = some o := by
  obtain ⟨O, ⟨ho, rfl⟩, _⟩ := h.one hi
  exact ho

theorem Crew.objNew (h : Crew U w0 l w) (o : Obj) : Crew U w0 (l ++ [objT w.heap.size o]) (w.alloc o) :=
  h.more (t := objT w.heap.size o) ⟨fun k => k = w.heap.size, ⟨World.alloc_heap_new w o, rfl⟩, (Below.refl _ w).alloc (Nat.le_refl _) _, fun _ hk => Nat.le_of_eq hk.symm⟩

theorem Crew.objPut (h : Crew U w0 l w) (i : Nat) (hi : l[i]? = some (objT b o)) (o' : Obj) : Crew U w0 (l.set i (objT b o')) (w.putObj b o') := by
  obtain ⟨O, ⟨ho, rfl⟩, hset, _⟩ := h.one hi
  exact hset _ _ ⟨_, ⟨World.putObj_heap_same (Array.getElem?_eq_some_iff.1 ho).1, rfl⟩, (Moved.refl (fun k => k = b) w).putObj (.inl rfl) _, fun k hk => .inl hk⟩

theorem Crew.only {O : Nat → Prop} (h : t.holds O w) : Crew O w [t] w := by
  refine ⟨Moved.refl _ _, fun _ => O, fun i u hu => ?_, fun i j hi hj hne => ?_⟩
  · match i, hu with
    | 0, hu =>
      simp at hu
      subst hu
      exact ⟨h, fun k hk => .inl hk⟩
    | i + 1, hu => simp at hu
  · simp at hi hj
    omega

/-- Those behind the first one, held as one. -/
theorem Crew.grp (h : Crew U w0 (t :: l) w) : Crew U w0 [t, groupT l] w := by
  obtain ⟨h1, Os, h2, h3⟩ := h
  have e2 : ∀ (i : Nat) (u : Thing 0), l[i]? = some u → u.holds (Os (i + 1)) w ∧ ∀ k, Os (i + 1) k → U k ∨ w0.heap.size ≤ k := fun i u hu => h2 (i + 1) u (by simpa using hu)
  refine ⟨h1, fun i k => if i = 0 then Os 0 k else ∃ j, j < l.length ∧ Os (j + 1) k, fun i u hu => ?_, fun i j hi hj hne k hk hk' => ?_⟩
  · match i, hu with
    | 0, hu =>
      simp at hu
      subst hu
      simpa using h2 0 t (by simp)
    | 1, hu =>
      simp at hu
      subst hu
      refine ⟨⟨fun j => Os (j + 1), fun j u hu => (e2 j u hu).1, fun i j hi hj hne => h3 (i + 1) (j + 1) (by simpa using hi) (by simpa using hj) (by omega), by simp⟩, ?_⟩
      rintro k ⟨j, hj, hk⟩
      exact (e2 j _ (List.getElem?_eq_getElem hj)).2 k hk
    | i + 2, hu => simp at hu
  · simp at hi hj
    match i, j, hi, hj, hne with
    | 0, 0, _, _, hne => exact hne rfl
    | 1, 1, _, _, hne => exact hne rfl
    | 0, 1, _, _, _ =>
      obtain ⟨m, hm, hk2⟩ := hk'
      exact h3 0 (m + 1) (by simp) (by simpa using hm) (by omega) k (by simpa using hk) hk2
    | 1, 0, _, _, _ =>
      obtain ⟨m, hm, hk2⟩ := hk
      exact h3 0 (m + 1) (by simp) (by simpa using hm) (by omega) k (by simpa using hk') hk2

theorem Crew.flat (h : Crew U w0 [t, groupT l] w) : Crew U w0 (t :: l) w := by
  obtain ⟨h1, Os, h2, h3⟩ := h
  obtain ⟨⟨Gs, g1, g2, g3⟩, g4⟩ := h2 1 (groupT l) rfl
  have f1 : ∀ j, j < l.length → ∀ k, Gs j k → Os 1 k := fun j hj k hk => by rw [g3]; exact ⟨j, hj, hk⟩
  refine ⟨h1, fun i => match i with | 0 => Os 0 | i + 1 => Gs i, fun i u hu => ?_, fun i j hi hj hne k hk hk' => ?_⟩
  · match i, hu with
    | 0, hu =>
      simp at hu
      subst hu
      exact h2 0 t rfl
    | i + 1, hu =>
      have hu' : l[i]? = some u := by simpa using hu
      exact ⟨g1 i u hu', fun k hk => g4 k (f1 i (List.getElem?_eq_some_iff.1 hu').1 k hk)⟩
  · match i, j, hi, hj, hne with
    | 0, 0, _, _, hne => exact hne rfl
    | 0, j + 1, _, hj, _ => exact h3 0 1 (by simp) (by simp) (by omega) k hk (f1 j (by simpa using hj) k hk')
    | i + 1, 0, hi, _, _ => exact h3 0 1 (by simp) (by simp) (by omega) k hk' (f1 i (by simpa using hi) k hk)
    | i + 1, j + 1, hi, hj, hne => exact g2 i j (by simpa using hi) (by simpa using hj) (by omega) k hk hk'

end

/-- Nothing. -/
def noT : Thing 0 where
  holds O _ := O = fun _ => False
  lt := by
    rintro O w rfl k hk
    exact hk.elim
  keep := by
    rintro O w w' rfl _
    rfl

section
variable {U : Nat → Prop} {w0 w : World} {l : List (Thing 0)}

/-- Some of them, in another order. -/
theorem Crew.pick (h : Crew U w0 l w) (is : List Nat) (hn : is.Nodup) (hlt' : (is.all fun i => decide (i < l.length)) = true) : Crew U w0 (is.map fun i => l.getD i noT) w := by
  have hlt : ∀ i ∈ is, i < l.length := fun i hi => of_decide_eq_true (List.all_eq_true.1 hlt' i hi)
  obtain ⟨h1, Os, h2, h3⟩ := h
  refine ⟨h1, fun j => Os (is.getD j 0), fun j u hu => ?_, fun i j hi hj hne k hk hk' => ?_⟩
  · rw [List.getElem?_map] at hu
    cases e : is[j]? with
    | none => rw [e] at hu; cases hu
    | some i =>
      rw [e] at hu
      have hil := hlt i (List.mem_of_getElem? e)
      dsimp only
      rw [List.getD_eq_getElem?_getD, e]
      refine h2 i u ?_
      simp only [Option.map_some, List.getD_eq_getElem?_getD, List.getElem?_eq_getElem hil, Option.getD_some, Option.some.injEq] at hu
      rw [List.getElem?_eq_getElem hil, hu]
  · simp only [List.length_map] at hi hj
    simp only [List.getD_eq_getElem?_getD, List.getElem?_eq_getElem hi, List.getElem?_eq_getElem hj, Option.getD_some] at hk hk'
    refine h3 _ _ (hlt _ (List.getElem_mem hi)) (hlt _ (List.getElem_mem hj)) (fun e => hne ?_) k hk hk'
    have hp := List.pairwise_iff_getElem.1 hn
    rcases Nat.lt_trichotomy i j with h | h | h
    · exact (hp i j hi hj h e).elim
    · exact h
    · exact (hp j i hj hi h e.symm).elim

/-- What is held as one, laid open behind the others. -/
theorem Crew.spill {g : List (Thing 0)} (h : Crew U w0 l w) (i : Nat) (hi : l[i]? = some (groupT g)) : Crew U w0 (l.set i noT ++ g) w := by
  obtain ⟨h1, Os, h2, h3⟩ := h
  obtain ⟨⟨Gs, g1, g2, g3⟩, g4⟩ := h2 i (groupT g) hi
  have hil : i < l.length := (List.getElem?_eq_some_iff.1 hi).1
  have f1 : ∀ j, j < g.length → ∀ k, Gs j k → Os i k := fun j hj k hk => by rw [g3]; exact ⟨j, hj, hk⟩
  have low : ∀ j k, j < l.length → (if j < l.length then (if j = i then False else Os j k) else Gs (j - l.length) k) → j ≠ i ∧ Os j k := fun j k hj hk => by
    rw [if_pos hj] at hk
    by_cases e : j = i
    · rw [if_pos e] at hk; exact hk.elim
    · rw [if_neg e] at hk; exact ⟨e, hk⟩
  have high : ∀ j k, ¬ j < l.length → (if j < l.length then (if j = i then False else Os j k) else Gs (j - l.length) k) → Gs (j - l.length) k := fun j k hj hk => by
    rwa [if_neg hj] at hk
  refine ⟨h1, fun j k => if j < l.length then (if j = i then False else Os j k) else Gs (j - l.length) k, fun j u hu => ?_, fun j j' hj hj' hne k hk hk' => ?_⟩
  · by_cases e : j < l.length
    · rw [List.getElem?_append_left (by simpa using e)] at hu
      by_cases e' : j = i
      · subst e'
        rw [List.getElem?_set_self hil] at hu
        cases hu
        exact ⟨by funext k; simp [e], fun k hk => ((low j k e hk).1 rfl).elim⟩
      · rw [List.getElem?_set_ne (fun h => e' h.symm)] at hu
        have := h2 j u hu
        simp only [e, e', if_true, if_false]
        exact this
    · rw [List.getElem?_append_right (by simpa using e)] at hu
      simp only [List.length_set] at hu
      simp only [e, if_false]
      exact ⟨g1 _ u hu, fun k hk => g4 k (f1 _ (List.getElem?_eq_some_iff.1 hu).1 k hk)⟩
  · simp only [List.length_append, List.length_set] at hj hj'
    by_cases e : j < l.length
    · obtain ⟨n1, o1⟩ := low j k e hk
      by_cases e' : j' < l.length
      · exact h3 j j' e e' hne k o1 (low j' k e' hk').2
      · exact h3 j i e hil n1 k o1 (f1 _ (by omega) k (high j' k e' hk'))
    · have o1 := high j k e hk
      by_cases e' : j' < l.length
      · obtain ⟨n2, o2⟩ := low j' k e' hk'
        exact h3 j' i e' hil n2 k o2 (f1 _ (by omega) k o1)
      · exact g2 _ _ (by omega) (by omega) (by omega) k o1 (high j' k e' hk')

/-- The first ones, held as one. -/
theorem Crew.bunch {l1 l2 : List (Thing 0)} (h : Crew U w0 (l1 ++ l2) w) : Crew U w0 (groupT l1 :: l2) w := by
  obtain ⟨h1, Os, h2, h3⟩ := h
  have e1 : ∀ (i : Nat) (u : Thing 0), l1[i]? = some u → u.holds (Os i) w ∧ ∀ k, Os i k → U k ∨ w0.heap.size ≤ k := fun i u hu => h2 i u (by rw [List.getElem?_append_left (List.getElem?_eq_some_iff.1 hu).1]; exact hu)
  have e2 : ∀ (i : Nat) (u : Thing 0), l2[i]? = some u → u.holds (Os (l1.length + i)) w ∧ ∀ k, Os (l1.length + i) k → U k ∨ w0.heap.size ≤ k := fun i u hu => h2 (l1.length + i) u (by rw [List.getElem?_append_right (by omega)]; simpa using hu)
  refine ⟨h1, fun i k => match i with | 0 => ∃ j, j < l1.length ∧ Os j k | i + 1 => Os (l1.length + i) k, fun i u hu => ?_, fun i j hi hj hne k hk hk' => ?_⟩
  · match i, hu with
    | 0, hu =>
      simp at hu
      subst hu
      refine ⟨⟨Os, fun j u hu => (e1 j u hu).1, fun i j hi hj hne => h3 i j (by simp; omega) (by simp; omega) hne, rfl⟩, ?_⟩
      rintro k ⟨j, hj, hk⟩
      exact (e1 j _ (List.getElem?_eq_getElem hj)).2 k hk
    | i + 1, hu => exact e2 i u (by simpa using hu)
  · match i, j, hi, hj, hne with
    | 0, 0, _, _, hne => exact hne rfl
    | 0, j + 1, _, hj, _ =>
      obtain ⟨m, hm, hk2⟩ := hk
      exact h3 m (l1.length + j) (by simp; omega) (by simp at hj ⊢; omega) (by omega) k hk2 hk'
    | i + 1, 0, hi, _, _ =>
      obtain ⟨m, hm, hk2⟩ := hk'
      exact h3 m (l1.length + i) (by simp; omega) (by simp at hi ⊢; omega) (by omega) k hk2 hk
    | i + 1, j + 1, hi, hj, hne => exact h3 (l1.length + i) (l1.length + j) (by simp at hi ⊢; omega) (by simp at hj ⊢; omega) (by omega) k hk hk'

theorem Crew.ex {α : Type} {f : α → Thing 0} (h : Crew U w0 l w) (i : Nat) (hi : l[i]? = some (exT f)) : ∃ a, Crew U w0 (l.set i (f a)) w := by
  obtain ⟨O, ⟨a, ho⟩, hset, _⟩ := h.one hi
  exact ⟨a, hset _ _ (Turns.same ho)⟩

theorem Crew.with {p : Prop} {t : Thing 0} (h : Crew U w0 l w) (i : Nat) (hi : l[i]? = some (withT p t)) : p ∧ Crew U w0 (l.set i t) w := by
  obtain ⟨O, ⟨hp, ho⟩, hset, _⟩ := h.one hi
  exact ⟨hp, hset _ _ (Turns.same ho)⟩

theorem Crew.idle (h : Crew U w0 l w) : Crew U w0 (l ++ [noT]) w :=
  h.more (t := noT) ⟨fun _ => False, rfl, Below.refl _ _, fun _ hk => hk.elim⟩

end

/-- 'append' to a row that is one of several things, in a round too. -/
theorem wpListIn_append_crew {F : Fence} {nF : Nat} {P : Program} {U : Nat → Prop} {w0 w : World} {l : List (Thing 0)} {e z n : Nat} {xs : List Value} {ops : Array Oper} {rest : List Oper} {o : Oper} {a : Act} {Q : Exit → Act → World → Prop} (h : Crew U w0 l w) (i : Nat) {v : Value} (hi : l[i]? = some (rowT 0 e z v n xs)) (hgd : o.guard = none) (s x : Operand) (t : TypeId)
    (ho : o.op = .call { callee := .builtin .append, args := #[s, x], argTypes := #[t, t] }) (zv : Value) (bytes : Nat) (ht : P.underlying t = some (.slice e)) (hinfo : (P.info? e).map (fun i => (i.zero, i.size, i.bytes)) = some (some zv, z, bytes)) (hzs : zv.cells.size = z) (hsz : 0 < z)
    (hs : a.eval s = v) (ad : Addr) (m c : Nat) (news : List Value) (hx : a.eval x = .slice (some ad) m c) (hl : news.length = m * z) (hnews : ∀ j u, news[j]? = some u → w.cell? (ad.add j) = some u) (h1 : ∀ u ∈ news, u.oneCell' = true)
    (h63 : n + m ≤ maxLen) (hbytes : (n + m) * bytes ≤ 140737488355328)
    (hK : ∀ v' w', Crew U w0 (l.set i (rowT 0 e z v' (n + m) (xs ++ news))) w' → wpListIn F nF P ops Q rest (a.put o.dst v') w') : wpListIn F nF P ops Q (o :: rest) a w := by
  obtain ⟨v', w', hr, h2⟩ := run_append_crew (P := P) h i hi t o.type zv bytes ht hinfo hzs hsz ad m c news hl hnews h1 h63 hbytes
  refine wpListIn_plain hgd fun K hK' => ?_
  unfold Oper.wpIn
  refine ⟨by simp [Oper.about, ho, resolve, Target.leads, Sem.run_pure], ?_⟩
  rw [Oper.semAt_plain F _ _ (by rw [ho]; intro c hc'; cases hc')]
  simp [execOp, ho, resolve, invoke, builtin, hs, hx, hr, Result.andThen]
  exact hK' _ _ (hK v' w' h2)

/-- What a call of yield does to the things of the loop: J behind what has come; Jx, where no more is asked for. -/
def Yields {α : Type} (P : Program) (l : Nat) (encs : α → Array Value) (xs : List α) (J Jx : List α → Thing 0) : Prop :=
  ∀ pre x O W, pre ++ [x] <+: xs → (J pre).holds O W → YieldAt Fence.wide 0 P l (encs x) W fun e W' =>
    (e = .returned (.bool true) ∧ Turns (J (pre ++ [x])) O W W') ∨ (e = .returned (.bool false) ∧ Turns (Jx (pre ++ [x])) O W W')

/-- The function value gives xs, one behind the other; of what lay in W0 it reads the blocks R alone. -/
def Gives {α : Type} (P : Program) (gf : Nat) (lb : Array Value) (encs : α → Array Value) (xs : List α) (R : Nat → Prop) (W0 : World) : Prop :=
  (∀ k, R k → k < W0.heap.size) ∧ ∀ (l : Nat) (J Jx : List α → Thing 0) (O : Nat → Prop) (W : World), W0.heap.size ≤ W.heap.size → (∀ k, R k → W.heap[k]? = W0.heap[k]?) → (∀ k, R k → ¬ O k) → (J []).holds O W → Yields P l encs xs J Jx →
    Calls P gf (#[.func (.yield l) #[] #[]] ++ lb) W fun e W' => (∃ v, e = .returned v) ∧ (Turns (J xs) O W W' ∨ ∃ pre, pre <+: xs ∧ Turns (Jx pre) O W W')

theorem Gives.later {α : Type} {P : Program} {gf : Nat} {lb : Array Value} {encs : α → Array Value} {xs : List α} {R : Nat → Prop} {W0 W1 : World} (h : Gives P gf lb encs xs R W0) (hs : W0.heap.size ≤ W1.heap.size) (hR : ∀ k, R k → W1.heap[k]? = W0.heap[k]?) :
    Gives P gf lb encs xs R W1 :=
  ⟨fun k hk => Nat.lt_of_lt_of_le (h.1 k hk) hs, fun l J Jx O W hW hk hO h0 hY => h.2 l J Jx O W (Nat.le_trans hs hW) (fun k hr => (hk k hr).trans (hR k hr)) hO h0 hY⟩

/-- How the body of a round may be left. -/
def turnPost {α : Type} (I : List α → Thing 0) (Ix : Code → List α → Thing 0) (xs : List α) (O : Nat → Prop) (W : World) : Exit → Act → World → Prop
  | .normal, _, W' => Turns (I xs) O W W'
  | .ret, _, W' => Turns (Ix .ret xs) O W W'
  | .exit id, _, W' => Turns (Ix (.exit id) xs) O W W'
  | .goto t, _, W' => Turns (Ix (.goto t) xs) O W W'
  | .panic _, _, _ => False
  | .outgrown, _, _ => False

/-- The statement 'for x := range g', over things in memory. -/
theorem wpIn_range {α : Type} {P : Program} {n : Nat} {g : Operand} {ps : Array Tmp} {assign body : Code} {Q : Exit → Act → World → Prop} {a : Act} {w : World}
    {gf : Nat} {lb : Array Value} (hg : a.eval g = .func (.func gf) #[] lb) (eg : ∀ args w, (callFunc gf args).run P w = .ok (.enter gf args) w)
    {encs : α → Array Value} {xs : List α} {R : Nat → Prop} {W0 : World} (hgv : Gives P gf lb encs xs R W0) (hsz : W0.heap.size ≤ w.heap.size) (hR : ∀ k, R k → w.heap[k]? = W0.heap[k]?) (hps : ∀ x, (encs x).size = ps.size)
    {U : Nat → Prop} {w0 : World} {S : Thing 0} (I : List α → Thing 0) (Ix : Code → List α → Thing 0) (A : List α → α → Act → Thing 0) (C : Crew U w0 [S, I []] w)
    (hS : ∀ OS W, S.holds OS W → ∀ k, R k → OS k ∨ (k < w0.heap.size ∧ ¬ U k))
    (hassign : ∀ (l : Nat) (pre : List α) (x : α) (O : Nat → Prop) (W : World) (K : Act → World → Prop), (I pre).holds O W → (∀ a' W', Turns (A pre x a') O W W' → K a' W') →
      assign.wpIn (Fence.wide.inRound l) (n - 1 - 1) P (Exit.then K (fun _ _ _ => False)) { tmps := (ps.zip (encs x)).foldl (fun t (p, v) => t.setIfInBounds p v) a.tmps, defers := [] } W)
    (hbody : ∀ (l : Nat) (pre : List α) (x : α) (a' : Act) (O : Nat → Prop) (W : World), pre ++ [x] <+: xs → (A pre x a').holds O W → body.wpIn (Fence.wide.inRound l) (n - 1 - 1) P (turnPost I Ix (pre ++ [x]) O W) a' W)
    (hdone : ∀ (D : Nat) (W : World), Crew U w0 [S, I xs, objT D (.deferred (some []))] W → Q .normal { a with defers := { target := .collected D, args := #[] } :: a.defers } W)
    (hstop : ∀ (D : Nat) (c : Code) (pre : List α) (W : World), pre <+: xs → Crew U w0 [S, Ix c pre, objT D (.deferred (some []))] W → c.wpIn Fence.wide n P Q { a with defers := { target := .collected D, args := #[] } :: a.defers } W) :
    (Code.rangeFunc g ps assign body).wpIn Fence.wide n P Q a w := by
  refine wpIn_rangeFunc ?_
  intro fn hfn
  obtain ⟨rec, hrec⟩ : ∃ rec : LoopState → Option Code → Loop, rec = fun st pe => { state := st, pending := pe, fn, tmps := a.tmps, params := ps, assign, body, defers := w.heap.size } := ⟨_, rfl⟩
  obtain ⟨W1, hW1⟩ : ∃ W1, (w.alloc (.deferred (some []))).alloc (.loop (rec .ready none)) = W1 := ⟨_, rfl⟩
  have C1 : Crew U w0 [S, I [], objT w.heap.size (.deferred (some [])), objT (w.heap.size + 1) (.loop (rec .ready none))] W1 := by
    rw [← hW1]
    have := (C.objNew (.deferred (some []))).objNew (.loop (rec .ready none))
    rw [World.size_alloc] at this
    exact this
  have hb1 : Below w.heap.size w W1 := by rw [← hW1]; exact ((Below.refl _ w).alloc (Nat.le_refl _) _).alloc (by simp) _
  refine ⟨w.heap.size + 1, [{ target := .collected w.heap.size, args := #[] }], W1, { target := .fn (.func gf) lb, args := #[.func (.yield (w.heap.size + 1)) #[] #[]] }, W1, gf,
    #[.func (.yield (w.heap.size + 1)) #[] #[]] ++ lb, W1, ?_, ?_, ?_, ?_, fun h => by simp [Fence.wide] at h, ?_⟩
  · rw [← hW1, hrec]; exact run_enterLoop_outer _ _ _ _ _
  · simp only [resolve, hg]
    simp [go_sem]
  · intro f' _; trivial
  · simp [invoke, go_sem, eg]
  · refine callsIn_wide.2 ?_
    have C2 := C1.grp
    obtain ⟨OJ, hoJ, hset, hoth, hU⟩ := C2.one (i := 1) rfl
    obtain ⟨OS, hoS, hdj⟩ := hoth 0 S (by omega) rfl
    have hRlt : ∀ k, R k → k < w.heap.size := fun k hk => Nat.lt_of_lt_of_le (hgv.1 k hk) hsz
    have hRO : ∀ k, R k → ¬ OJ k := by
      intro k hk ho
      rcases hS OS W1 hoS k hk with h | ⟨h1, h2⟩
      · exact hdj k h ho
      · rcases hU k ho with h | h
        · exact h2 h
        · omega
    refine (hgv.2 (w.heap.size + 1)
      (fun pre => groupT [I pre, objT w.heap.size (.deferred (some [])), objT (w.heap.size + 1) (.loop (rec .ready none))])
      (fun pre => exT fun c => groupT [Ix c pre, objT w.heap.size (.deferred (some [])), objT (w.heap.size + 1) (.loop (rec .done (some c)))])
      OJ W1 (Nat.le_trans hsz hb1.size) (fun k hk => (hb1.block k (hRlt k hk)).trans (hR k hk)) hRO hoJ ?_).mono ?_
    · -- one round
      intro pre x O W hpre hJ
      have CW := groupT_open hJ
      have hl : W.heap[w.heap.size + 1]? = some (.loop (rec .ready none)) := CW.obj 2 rfl
      have hy := run_yield (P := P) (args := encs x) hl (by rw [hrec]; exact hps x)
      rw [hrec] at hy
      obtain ⟨OI, hoI, hsetI, _⟩ := CW.one (i := 0) rfl
      refine ⟨fn, _, assign, body, hy, ?_⟩
      have hround := roundIn_of_wpIn (F := Fence.wide) (n := n - 1 - 1) (P := P) (l := w.heap.size + 1) (f := fn) (tmps := (ps.zip (encs x)).foldl (fun t (p, v) => t.setIfInBounds p v) a.tmps) (assign := assign) (body := body) (w := W)
        (R := fun e W' => (e = .returned (.bool true) ∧ Turns (groupT [I (pre ++ [x]), objT w.heap.size (.deferred (some [])), objT (w.heap.size + 1) (.loop (rec .ready none))]) O W W') ∨
          (e = .returned (.bool false) ∧ Turns (exT fun c => groupT [Ix c (pre ++ [x]), objT w.heap.size (.deferred (some [])), objT (w.heap.size + 1) (.loop (rec .done (some c)))]) O W W')) hfn
        (hassign _ pre x OI W _ hoI ?_)
      · exact ⟨hround.1, fun c cs _ => hround.2 c cs (room_wide _)⟩
      clear hy
      intro a' Wa hTa
      have Ca := hsetI _ _ hTa
      have hla : Wa.heap[w.heap.size + 1]? = some (.loop (rec .ready none)) := Ca.obj 2 rfl
      refine ⟨_, run_beginRound hla (by rw [hrec]), ?_⟩
      have Cb := Ca.objPut 2 rfl (.loop { rec .ready none with state := .busy })
      obtain ⟨OA, hoA, hsetA, _⟩ := Cb.one (i := 0) rfl
      refine wpIn_mono (hbody _ pre x a' OA _ hpre hoA) ?_
      have fin : ∀ (jump : Option Code) (t : Thing 0) (W3 : World), Turns t OA (Wa.putObj (w.heap.size + 1) (.loop { rec .ready none with state := .busy })) W3 →
          (Instr.endRound (w.heap.size + 1) jump).run P W3 = .ok (.bool jump.isNone) (W3.putObj (w.heap.size + 1) (.loop (rec (if jump.isNone then .ready else .done) jump))) ∧
          Turns (groupT [t, objT w.heap.size (.deferred (some [])), objT (w.heap.size + 1) (.loop (rec (if jump.isNone then .ready else .done) jump))]) O W (W3.putObj (w.heap.size + 1) (.loop (rec (if jump.isNone then .ready else .done) jump))) := fun jump t W3 hT => by
        have Cc := hsetA _ _ hT
        have hl3 : W3.heap[w.heap.size + 1]? = some (.loop { rec .ready none with state := .busy }) := Cc.obj 2 rfl
        have hre := run_endRound (P := P) jump hl3
        have Cd := Cc.objPut 2 rfl (.loop (rec (if jump.isNone then .ready else .done) jump))
        refine ⟨?_, groupT_shut Cd⟩
        rw [hrec] at hre ⊢
        exact hre
      rintro e a3 W3 hp
      cases e with
      | normal =>
        obtain ⟨hr, ht⟩ := fin none _ W3 hp
        exact ⟨_, _, hr, .inl ⟨rfl, ht⟩⟩
      | ret =>
        obtain ⟨hr, ht⟩ := fin (some .ret) _ W3 hp
        exact ⟨_, _, hr, .inr ⟨rfl, Turns.ex .ret ht⟩⟩
      | exit id =>
        obtain ⟨hr, ht⟩ := fin (some (.exit id)) _ W3 hp
        exact ⟨_, _, hr, .inr ⟨rfl, Turns.ex (.exit id) ht⟩⟩
      | goto t =>
        obtain ⟨hr, ht⟩ := fin (some (.goto t)) _ W3 hp
        exact ⟨_, _, hr, .inr ⟨rfl, Turns.ex (.goto t) ht⟩⟩
      | panic ch => exact hp.elim
      | outgrown => exact hp.elim
    · -- behind the iterator
      rintro e W2 ⟨⟨v, rfl⟩, hT | ⟨pre, hpre, hT⟩⟩
      · have C3 := (hset _ _ hT).flat
        have hl : W2.heap[w.heap.size + 1]? = some (.loop (rec .ready none)) := C3.obj 3 rfl
        refine ⟨none, _, by have := run_endLoop (P := P) hl (by rw [hrec]; simp); rw [hrec] at this; exact this, ?_⟩
        have C4 := C3.objPut 3 rfl (.loop { rec .ready none with state := .exhausted })
        rw [hrec] at C4
        exact hdone _ _ (Crew.first (l := [S, I xs, objT w.heap.size (.deferred (some []))]) C4)
      · obtain ⟨O', ⟨c, hc⟩, hm, hk⟩ := hT
        have C3 := (hset _ _ ⟨O', hc, hm, hk⟩).flat
        have hl : W2.heap[w.heap.size + 1]? = some (.loop (rec .done (some c))) := C3.obj 3 rfl
        refine ⟨some c, _, by have := run_endLoop (P := P) hl (by rw [hrec]; simp); rw [hrec] at this; exact this, ?_⟩
        have C4 := C3.objPut 3 rfl (.loop { rec .done (some c) with state := .exhausted })
        rw [hrec] at C4
        exact hstop _ c pre _ hpre (Crew.first (l := [S, Ix c pre, objT w.heap.size (.deferred (some []))]) C4)

end Go.Proofs.Yteellffkjjllgaa
