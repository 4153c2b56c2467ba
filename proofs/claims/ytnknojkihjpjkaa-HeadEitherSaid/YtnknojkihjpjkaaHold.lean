/-
  What a call leaves as it was, rows of the call's own, and several things in memory that share nothing, of which one at a time is changed. Conditions: as each theorem states them.
-/
import Derived.Test.YtnknojkihjpjkaaChecked
import Derived.Below
import Derived.Lib.Hide
import Derived.WalkSpells
import Derived.WalkKit
import Derived.ProofKit
import Derived.Laws.AppendOwn
import Derived.Laws.Rows
import Derived.Lib.Builder
import Derived.OwnWalk
namespace Go.Proofs.Ytnknojkihjpjkaa
open Go.RowKit

/-- But for the blocks of O all that was there is as it was. -/
structure Moved (O : Nat → Prop) (w w' : World) : Prop where
  os : w'.os = w.os
  tape : w'.tape = w.tape
  output : w'.output = w.output
  size : w.heap.size ≤ w'.heap.size
  block : ∀ k, k < w.heap.size → ¬ O k → w'.heap[k]? = w.heap[k]?

theorem Moved.refl (O : Nat → Prop) (w : World) : Moved O w w := ⟨rfl, rfl, rfl, Nat.le_refl _, fun _ _ _ => rfl⟩

theorem Moved.trans {O O' : Nat → Prop} {u v w : World} (h : Moved O u v) (k : Moved O' v w) (hO : ∀ i, O' i → O i ∨ u.heap.size ≤ i) : Moved O u w :=
  ⟨k.os.trans h.os, k.tape.trans h.tape, k.output.trans h.output, Nat.le_trans h.size k.size, fun i hi hn =>
    (k.block i (Nat.lt_of_lt_of_le hi h.size) (fun ho => (hO i ho).elim hn (fun hz => by omega))).trans (h.block i hi hn)⟩

theorem Moved.of_below {w w' : World} (O : Nat → Prop) (h : Below w.heap.size w w') : Moved O w w' :=
  ⟨h.os, h.tape, h.output, h.size, fun k hk _ => h.block k hk⟩

theorem Moved.below {O : Nat → Prop} {w w' : World} (h : Moved O w w') {B : Nat} (hB : B ≤ w.heap.size) (hO : ∀ k, O k → B ≤ k) : Below B w w' :=
  ⟨h.os, h.tape, h.output, h.size, fun k hk => h.block k (by omega) (fun ho => by have := hO k ho; omega)⟩

theorem Moved.setCell {O : Nat → Prop} {u w : World} (h : Moved O u w) {b : Nat} (hb : O b ∨ u.heap.size ≤ b) (i : Nat) (x : Value) : Moved O u (w.setCell ⟨b, i, none⟩ x) :=
  h.trans (O' := fun k => k = b) ⟨rfl, rfl, rfl, by simp [World.setCell], fun k _ hn => Below.heap_setCell _ _ _ _ hn⟩ (fun i hi => hi ▸ hb)

theorem Moved.setRow {O : Nat → Prop} {u w : World} (h : Moved O u w) {b : Nat} (hb : O b ∨ u.heap.size ≤ b) (cs : Array Value) : Moved O u (w.setRow b cs) :=
  h.trans (O' := fun k => k = b) ⟨rfl, rfl, rfl, by simp [World.setRow], fun k _ hn => setRow_other _ _ _ _ hn⟩ (fun i hi => hi ▸ hb)

theorem Moved.alloc {O : Nat → Prop} {u w : World} (h : Moved O u w) (o : Obj) : Moved O u (w.alloc o) :=
  h.trans (O' := fun _ => False) ⟨rfl, rfl, rfl, by simp, fun k hk _ => Below.heap_alloc _ _ _ hk⟩ (fun _ hi => hi.elim)

theorem Moved.drew {O : Nat → Prop} {u w : World} (h : Moved O u w) : Moved O u w.drew := ⟨h.os, h.tape, h.output, h.size, h.block⟩

theorem Moved.grown {O : Nat → Prop} {u w w' : World} {row : Option Nat} (h : Moved O u w) (hg : w.grownBy w' row) (hr : ∀ k, row = some k → O k ∨ u.heap.size ≤ k) : Moved O u w' :=
  h.trans (O' := fun k => row = some k) ⟨hg.os, hg.tape, hg.output, hg.size, fun k hk hn => hg.block k hk (fun e => hn e.symm)⟩ (fun i hi => hr i hi)

theorem grown_setCell (w : World) (b i : Nat) (u : Value) : w.grownBy (w.setCell ⟨b, i, none⟩ u) (some b) :=
  ⟨rfl, rfl, rfl, by simp [World.setCell], fun _ _ hk => Below.heap_setCell _ _ _ _ (fun e => hk (by rw [e]))⟩

theorem own_put {w : World} {base e z g cap n i : Nat} {xs : List Value} (h : w.ownsRow base e z (.slice (some ⟨g, 0, none⟩) n cap) n xs) (u : Value) :
    (w.setCell ⟨g, i, none⟩ u).ownsRow base e z (.slice (some ⟨g, 0, none⟩) n cap) n (xs.set i u) := by
  obtain ⟨h1, h2⟩ := h
  rcases h2 with ⟨h2, _⟩ | ⟨g', cap', cur, h2, hb, hg, hn, hm, hs, ht⟩
  · cases h2
  · cases h2
    refine ⟨by simp [h1], .inr ⟨g, cap, cur.setIfInBounds i u, rfl, hb, heap_setCell_same w g i cur e u hg, hn, hm, by simp [hs], ?_⟩⟩
    rw [Array.toList_setIfInBounds, List.take_set, ht]

theorem own_block {w : World} {base e z g cap n : Nat} {xs : List Value} (h : w.ownsRow base e z (.slice (some ⟨g, 0, none⟩) n cap) n xs) :
    base ≤ g ∧ n ≤ cap ∧ cap ≤ maxLen ∧ ∃ cur : Array Value, w.heap[g]? = some (.cells cur e (0, 0)) ∧ cur.size = cap * z ∧ cur.toList.take (n * z) = xs := by
  obtain ⟨_, h2⟩ := h
  rcases h2 with ⟨h2, _⟩ | ⟨g', cap', cur, h2, hb, hg, hn, hm, hs, ht⟩
  · cases h2
  · cases h2
    exact ⟨hb, hn, hm, cur, hg, hs, ht⟩

theorem own_cell {w : World} {base e z g cap n : Nat} {xs : List Value} (h : w.ownsRow base e z (.slice (some ⟨g, 0, none⟩) n cap) n xs) {j : Nat} {u : Value} (hu : xs[j]? = some u) :
    w.cell? ⟨g, j, none⟩ = some u ∧ w.frozen? ⟨g, j, none⟩ = false := by
  obtain ⟨_, _, _, cur, hg, _, ht⟩ := own_block h
  refine ⟨?_, Lib.frozen_of_heap hg j⟩
  rw [Lib.cell_of_heap hg]
  rw [← ht, List.getElem?_take] at hu
  split at hu
  · simpa using hu
  · cases hu

theorem own_slice {w : World} {base e z n : Nat} {v : Value} {xs : List Value} (h : w.ownsRow base e z v n xs) : ∃ a cap, v = .slice a n cap := by
  rcases h.2 with ⟨rfl, rfl⟩ | ⟨g, cap, cur, rfl, _⟩
  · exact ⟨none, 0, rfl⟩
  · exact ⟨_, cap, rfl⟩

theorem own_mono {w : World} {base base' e size n : Nat} {v : Value} {xs : List Value} (h : w.ownsRow base e size v n xs) (hb : base' ≤ base) : w.ownsRow base' e size v n xs := by
  refine ⟨h.1, ?_⟩
  rcases h.2 with h2 | ⟨g, cap, cur, hv, hg, r⟩
  · exact .inl h2
  · exact .inr ⟨g, cap, cur, hv, Nat.le_trans hb hg, r⟩

section
variable {P : Program} (w : World)

theorem run_append_own2 (base : Nat) (t ty e : TypeId) (i : TypeInfo) (z : Value) (size bytes : Nat) (ht : P.underlying t = some (.slice e)) (hi : P.info? e = some i) (hz : i.zero = some z)
    (hsize : i.size = size) (hby : i.bytes = bytes) (hzs : z.cells.size = size) (hsz : 0 < size)
    (v : Value) (n : Nat) (xs : List Value) (hown : w.ownsRow base e size v n xs)
    (a : Addr) (m c : Nat) (news : List Value) (hl : news.length = m * size) (hnews : ∀ j u, news[j]? = some u → w.cell? (a.add j) = some u) (h1 : ∀ u ∈ news, u.oneCell' = true)
    (h63 : n + m ≤ maxLen) (hbytes : (n + m) * bytes ≤ 140737488355328) (hbase : base ≤ w.heap.size) :
    ∃ v' w', (Builtin.append_ #[t, t] ty #[v, .slice (some a) m c]).run P w = .ok v' w' ∧ w'.ownsRow base e size v' (n + m) (xs ++ news) ∧ w.grownBy w' v.ownBlock ∧
      ∀ k, v'.ownBlock = some k → v.ownBlock = some k ∨ w.heap.size ≤ k := by
  have hs := hown
  rcases hown.2 with ⟨rfl, rfl⟩ | ⟨g, cap, cur, rfl, hbg, hg, hnc, hcm, hcs, htake⟩
  · have hx : xs = [] := List.eq_nil_of_length_eq_zero (by simpa using hown.1)
    subst hx
    obtain ⟨v', w', hr, h2, h3, _⟩ := run_append_own (P := P) w w.heap.size t ty e i z size bytes ht hi hz hsize hby hzs hsz _ 0 [] (World.ownsRow_nil w _ e size) a m c news hl hnews h1 h63 hbytes (Nat.le_refl _)
    exact ⟨v', w', hr, own_mono h2 hbase, h3, fun k hk => .inr (h2.lt k hk).1⟩
  · obtain ⟨v', w', hr, h2, h3, _⟩ := run_append_own (P := P) w base t ty e i z size bytes ht hi hz hsize hby hzs hsz _ n xs hs a m c news hl hnews h1 h63 hbytes hbase
    refine ⟨v', w', hr, h2, h3, ?_⟩
    subst hsize
    subst hby
    by_cases hroom : n + m ≤ cap
    · have hfit : n * i.size + news.length ≤ cur.size := by rw [hl, hcs, ← Nat.add_mul]; exact Nat.mul_le_mul_right _ hroom
      have hr' := run_append_room (P := P) w t ty e i ht hi g n cap cur hg a m c news hl hnews h1 hroom hfit
      rw [hr] at hr'
      cases hr'
      exact fun k hk => .inl hk
    · have holds : ∀ j u, xs[j]? = some u → w.cell? ((⟨g, 0, none⟩ : Addr).add j) = some u := hs.cells (g := g) rfl
      have hr' := run_append_grow (P := P) w t ty e i z ht hi hz ⟨g, 0, none⟩ n cap xs hs.1 holds a m c news hl hnews (by omega) (by simp only [maxLen] at h63; omega) (growslice_fits (by omega) hbytes)
      rw [hr] at hr'
      cases hr'
      exact fun k hk => .inr (by simp [Value.ownBlock] at hk; omega)

theorem wpList_append_own2 {ops : Array Oper} {rest : List Oper} {o : Oper} {a : Act} {Q : Exit → Act → World → Prop} (hgd : o.guard = none) (s x : Operand) (t : TypeId)
    (ho : o.op = .call { callee := .builtin .append, args := #[s, x], argTypes := #[t, t] })
    (base : Nat) (e : TypeId) (i : TypeInfo) (z : Value) (size bytes : Nat) (ht : P.underlying t = some (.slice e)) (hi : P.info? e = some i) (hz : i.zero = some z)
    (hsize : i.size = size) (hby : i.bytes = bytes) (hzs : z.cells.size = size) (hsz : 0 < size)
    (v : Value) (n : Nat) (xs : List Value) (hs : a.eval s = v) (hown : w.ownsRow base e size v n xs)
    (ad : Addr) (m c : Nat) (news : List Value) (hx : a.eval x = .slice (some ad) m c) (hl : news.length = m * size) (hnews : ∀ j u, news[j]? = some u → w.cell? (ad.add j) = some u) (h1 : ∀ u ∈ news, u.oneCell' = true)
    (h63 : n + m ≤ maxLen) (hbytes : (n + m) * bytes ≤ 140737488355328) (hbase : base ≤ w.heap.size)
    (h : ∀ v' w', w'.ownsRow base e size v' (n + m) (xs ++ news) → w.grownBy w' v.ownBlock → (∀ k, v'.ownBlock = some k → v.ownBlock = some k ∨ w.heap.size ≤ k) → wpList P ops Q rest (a.put o.dst v') w') : wpList P ops Q (o :: rest) a w := by
  obtain ⟨v', w', hr, h2, h3, h4⟩ := run_append_own2 (P := P) w base t o.type e i z size bytes ht hi hz hsize hby hzs hsz v n xs hown ad m c news hl hnews h1 h63 hbytes hbase
  refine wpList_plain hgd fun K hK => ?_
  unfold Oper.wp execOp
  simp only [ho, resolve, invoke, builtin, Sem.run_bind, Sem.run_pure, Result.andThen_ok, List.map_toArray, List.map_cons, List.map_nil, hs, hx, hr]
  exact hK _ _ (h v' w' h2 h3 h4)
end

/-- A thing in memory: which blocks are its own, and what it says of them. -/
structure Thing (base : Nat) where
  holds : (Nat → Prop) → World → Prop
  lt : ∀ {O : Nat → Prop} {w : World}, holds O w → ∀ k, O k → base ≤ k ∧ k < w.heap.size
  keep : ∀ {O : Nat → Prop} {w w' : World}, holds O w → (∀ k, O k → w'.heap[k]? = w.heap[k]?) → holds O w'

/-- Things that share nothing, in a world that is as it was below a border. -/
structure Fleet (base : Nat) (w0 : World) (l : List (Thing base)) (w : World) : Prop where
  lo : base ≤ w0.heap.size
  bel : Below base w0 w
  each : ∃ Os : Nat → Nat → Prop, (∀ (i : Nat) (t : Thing base), l[i]? = some t → t.holds (Os i) w) ∧ ∀ i j, i < l.length → j < l.length → i ≠ j → ∀ k, Os i k → Os j k → False

section
variable {base : Nat} {w0 w w' : World} {l : List (Thing base)}

theorem Fleet.start (w : World) : Fleet w.heap.size w [] w := ⟨Nat.le_refl _, Below.refl _ _, fun _ _ => False, fun i t h => by simp at h, fun i j h => by simp at h⟩

theorem Fleet.le (h : Fleet base w0 l w) : base ≤ w.heap.size := Nat.le_trans h.lo h.bel.size

theorem Fleet.below (h : Fleet base w0 l w) (hb : Below w.heap.size w w') : Fleet base w0 l w' := by
  have hB := h.le
  obtain ⟨h0, h1, Os, h2, h3⟩ := h
  exact ⟨h0, h1.trans (hb.mono hB), Os, fun i t ht => t.keep (h2 i t ht) (fun k hk => hb.block k ((t.lt (h2 i t ht) k hk).2)), h3⟩

/-- What one of them is, with the blocks that are its own, and how a world behind is laid again. -/
theorem Fleet.one (h : Fleet base w0 l w) {i : Nat} {t : Thing base} (hi : l[i]? = some t) :
    ∃ O, t.holds O w ∧ (∀ (t' : Thing base) (O' : Nat → Prop) (w' : World), t'.holds O' w' → Moved O w w' → (∀ k, O' k → O k ∨ w.heap.size ≤ k) → Fleet base w0 (l.set i t') w') ∧
      ∀ (j : Nat) (u : Thing base), j ≠ i → l[j]? = some u → ∃ O2, u.holds O2 w ∧ ∀ k, O2 k → O k → False := by
  have hB := h.le
  obtain ⟨h0, h1, Os, h2, h3⟩ := h
  have hil : i < l.length := (List.getElem?_eq_some_iff.1 hi).1
  refine ⟨Os i, h2 i t hi, fun t' O' w' ht' hm hO => ⟨h0, ?_, fun j k => if j = i then O' k else Os j k, fun j u hu => ?_, fun j j' hj hj' hne k hk hk' => ?_⟩, fun j u hne hu => ⟨Os j, h2 j u hu, h3 j i (List.getElem?_eq_some_iff.1 hu).1 hil hne⟩⟩
  · refine ⟨hm.os.trans h1.os, hm.tape.trans h1.tape, hm.output.trans h1.output, Nat.le_trans h1.size hm.size, fun k hk => ?_⟩
    exact (hm.block k (by omega) (fun ho => by have := (t.lt (h2 i t hi) k ho).1; omega)).trans (h1.block k hk)
  · by_cases e : j = i
    · subst e
      rw [List.getElem?_set_self hil] at hu
      cases hu
      simpa using ht'
    · rw [List.getElem?_set_ne (fun h => e h.symm)] at hu
      have := h2 j u hu
      simp only [e, if_false]
      exact u.keep this (fun k hk => hm.block k (u.lt this k hk).2 (fun ho => h3 j i (List.getElem?_eq_some_iff.1 hu).1 hil e k hk ho))
  · simp only [List.length_set] at hj hj'
    by_cases e : j = i
    · subst e
      have e' : j' ≠ j := fun h => hne h.symm
      simp only [if_true, e', if_false] at hk hk'
      obtain ⟨u, hu⟩ : ∃ u, l[j']? = some u := ⟨_, List.getElem?_eq_getElem hj'⟩
      rcases hO k hk with ho | ho
      · exact h3 j j' hj hj' hne k ho hk'
      · have := (u.lt (h2 j' u hu) k hk').2; omega
    · by_cases e' : j' = i
      · subst e'
        simp only [if_true, e, if_false] at hk hk'
        obtain ⟨u, hu⟩ : ∃ u, l[j]? = some u := ⟨_, List.getElem?_eq_getElem hj⟩
        rcases hO k hk' with ho | ho
        · exact h3 j j' hj hj' hne k hk ho
        · have := (u.lt (h2 j u hu) k hk).2; omega
      · simp only [e, e', if_false] at hk hk'
        exact h3 j j' hj hj' hne k hk hk'

/-- One more, in new memory. -/
theorem Fleet.more (h : Fleet base w0 l w) {t : Thing base} {O : Nat → Prop} (ht : t.holds O w') (hb : Below w.heap.size w w') (hO : ∀ k, O k → w.heap.size ≤ k) : Fleet base w0 (l ++ [t]) w' := by
  have hB := h.le
  obtain ⟨h0, h1, Os, h2, h3⟩ := h
  have old : ∀ (i : Nat) (u : Thing base), l[i]? = some u → u.holds (Os i) w' := fun i u hu => u.keep (h2 i u hu) (fun k hk => hb.block k ((u.lt (h2 i u hu) k hk).2))
  refine ⟨h0, h1.trans (hb.mono hB), fun j k => if j = l.length then O k else Os j k, fun j u hu => ?_, fun j j' hj hj' hne k hk hk' => ?_⟩
  · by_cases e : j = l.length
    · subst e
      simp at hu
      subst hu
      simpa using ht
    · have hj : j < l.length := by
        have := (List.getElem?_eq_some_iff.1 hu).1
        simp at this
        omega
      rw [List.getElem?_append_left hj] at hu
      simp only [e, if_false]
      exact old j u hu
  · simp only [List.length_append, List.length_singleton] at hj hj'
    have aux : ∀ i, i < l.length → ∀ k, Os i k → k < w.heap.size := fun i hi k hk => by
      obtain ⟨u, hu⟩ : ∃ u, l[i]? = some u := ⟨_, List.getElem?_eq_getElem hi⟩
      exact (u.lt (h2 i u hu) k hk).2
    by_cases e : j = l.length
    · have e' : j' ≠ l.length := fun h => hne (e.trans h.symm)
      simp only [e, e', if_true, if_false] at hk hk'
      have := hO k hk
      have := aux j' (by omega) k hk'
      omega
    · by_cases e' : j' = l.length
      · simp only [e, e', if_true, if_false] at hk hk'
        have := hO k hk'
        have := aux j (by omega) k hk
        omega
      · simp only [e, e', if_false] at hk hk'
        exact h3 j j' (by omega) (by omega) hne k hk hk'

end

/-- A row of the call's own. -/
def rowT (base e z : Nat) (v : Value) (n : Nat) (xs : List Value) : Thing base where
  holds O w := w.ownsRow base e z v n xs ∧ O = fun k => v.ownBlock = some k
  lt := by
    rintro O w ⟨h, rfl⟩ k hk
    exact h.lt k hk
  keep := by
    rintro O w w' ⟨h, rfl⟩ hk
    refine ⟨⟨h.1, ?_⟩, rfl⟩
    rcases h.2 with h2 | ⟨g, cap, cur, rfl, hb, hg, r⟩
    · exact .inl h2
    · exact .inr ⟨g, cap, cur, rfl, hb, (hk g rfl).trans hg, r⟩

section
variable {base : Nat} {w0 w : World} {l : List (Thing base)} {e z g n cap : Nat} {xs : List Value}

theorem Fleet.cell (h : Fleet base w0 l w) (i : Nat) (hi : l[i]? = some (rowT base e z (.slice (some ⟨g, 0, none⟩) n cap) n xs)) {j : Nat} {u : Value} (hu : xs[j]? = some u) :
    w.cell? ⟨g, j, none⟩ = some u ∧ w.frozen? ⟨g, j, none⟩ = false := by
  obtain ⟨O, ⟨ho, rfl⟩, _⟩ := h.one hi
  exact own_cell ho hu

theorem Fleet.put (h : Fleet base w0 l w) (i : Nat) (hi : l[i]? = some (rowT base e z (.slice (some ⟨g, 0, none⟩) n cap) n xs)) (j : Nat) (u : Value) :
    Fleet base w0 (l.set i (rowT base e z (.slice (some ⟨g, 0, none⟩) n cap) n (xs.set j u))) (w.setCell ⟨g, j, none⟩ u) := by
  obtain ⟨O, ⟨ho, rfl⟩, hset, _⟩ := h.one hi
  exact hset (rowT base e z (.slice (some ⟨g, 0, none⟩) n cap) n (xs.set j u)) _ _ ⟨own_put ho u, rfl⟩ ((Moved.refl (fun k => (Value.slice (some ⟨g, 0, none⟩) n cap).ownBlock = some k) w).setCell (b := g) (.inl rfl) _ _) (fun k hk => .inl hk)

/-- A row of the call's own that is made: one thing more. -/
theorem Fleet.made (h : Fleet base w0 l w) (C : Array Value) (e n : Nat) (hn : C.size = n) (hm : n ≤ 1000000) :
    Fleet base w0 (l ++ [rowT base e 1 (.slice (some ⟨w.heap.size, 0, none⟩) n n) n C.toList]) (w.alloc (.cells C e)) := by
  subst hn
  refine h.more (t := rowT base e 1 (.slice (some ⟨w.heap.size, 0, none⟩) C.size C.size) C.size C.toList) ⟨⟨by simp, .inr ⟨w.heap.size, C.size, C, rfl, h.le, heap_alloc_new w _, Nat.le_refl _, by unfold maxLen; omega, by simp, ?_⟩⟩, rfl⟩ ((Below.refl _ w).alloc (Nat.le_refl _) _) (fun k hk => by simp [Value.ownBlock] at hk; omega)
  exact List.take_of_length_le (by simp)

theorem Fleet.slice {v : Value} (h : Fleet base w0 l w) (i : Nat) (hi : l[i]? = some (rowT base e z v n xs)) : ∃ a c, v = .slice a n c := by
  obtain ⟨O, ⟨ho, rfl⟩, _⟩ := h.one hi
  exact own_slice ho

/-- 'append' to a row that is one of several things. -/
theorem wpList_append_fleet {P : Program} {ops : Array Oper} {rest : List Oper} {o : Oper} {a : Act} {Q : Exit → Act → World → Prop} (h : Fleet base w0 l w) (i : Nat) {v : Value} (hi : l[i]? = some (rowT base e z v n xs)) (hgd : o.guard = none) (s x : Operand) (t : TypeId)
    (ho : o.op = .call { callee := .builtin .append, args := #[s, x], argTypes := #[t, t] }) (zv : Value) (bytes : Nat) (ht : P.underlying t = some (.slice e)) (hinfo : (P.info? e).map (fun i => (i.zero, i.size, i.bytes)) = some (some zv, z, bytes)) (hzs : zv.cells.size = z) (hsz : 0 < z)
    (hs : a.eval s = v) (ad : Addr) (m c : Nat) (news : List Value) (hx : a.eval x = .slice (some ad) m c) (hl : news.length = m * z) (hnews : ∀ j u, news[j]? = some u → w.cell? (ad.add j) = some u) (h1 : ∀ u ∈ news, u.oneCell' = true)
    (h63 : n + m ≤ maxLen) (hbytes : (n + m) * bytes ≤ 140737488355328)
    (hK : ∀ v' w', Fleet base w0 (l.set i (rowT base e z v' (n + m) (xs ++ news))) w' → wpList P ops Q rest (a.put o.dst v') w') : wpList P ops Q (o :: rest) a w := by
  obtain ⟨O, ⟨ho', rfl⟩, hset, _⟩ := h.one hi
  obtain ⟨i0, hi0, hz0, hz1, hz2⟩ := info_parts hinfo
  refine wpList_append_own2 w hgd s x t ho base e i0 zv z bytes ht hi0 hz0 hz1 hz2 hzs hsz v n xs hs ho' ad m c news hx hl hnews h1 h63 hbytes h.le ?_
  intro v' w' ho2 hg hk
  exact hK v' w' (hset (rowT base e z v' (n + m) (xs ++ news)) _ w' ⟨ho2, rfl⟩ ((Moved.refl _ w).grown hg (fun k hk => .inl hk)) hk)

theorem Fleet.nil (h : Fleet base w0 l w) (e z : Nat) : Fleet base w0 (l ++ [rowT base e z (.slice none 0 0) 0 []]) w :=
  h.more (t := rowT base e z (.slice none 0 0) 0 []) (O := fun k => (Value.slice none 0 0).ownBlock = some k) ⟨World.ownsRow_nil _ _ _ _, rfl⟩ (Below.refl _ _) (fun k hk => by simp [Value.ownBlock] at hk)

end

end Go.Proofs.Ytnknojkihjpjkaa
