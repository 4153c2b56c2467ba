/-
  A range over a function: what an iterator gives, one behind the other, and what becomes of the things that the loop's body turns; the iterator reads some blocks, the body turns others. Conditions: as each theorem states them.
  Small words for walking a law: contracts that hold from one world on, a number's kind, and a row of numbers that came in. Conditions: none.
  Rows of spans and of marks in memory, wherever they lie: what their cells hold. Conditions: none.
  A region that draws its order, in which all operations but the last few read, or call what makes at most new memory, and the last few follow one another: walked once, in the text's order. Conditions: as each theorem states them.
  The reference of layer 5: what row, inside and marks answer. Conditions: as each theorem states them.
-/
import Derived.Test.YteellffkjjllgaaGreatG1
import Derived.Test.YteellffkjjllgaaGreatG2
import Derived.RangeFuncNested
import Derived.RangeFuncBound
import Derived.RangeFuncCalls
import Derived.OwnWalkIn
import Derived.Test.YteellffkjjllgaaGreatRows
import Derived.Test.YteellffkjjllgaaGreatChecked
import Derived.Below
import Derived.Lib.Hide
import Derived.WalkSpells
import Derived.WalkKit
import Derived.ProofKit
import Derived.OpenShut
import Derived.ShutString
import Derived.ChangeOld
import Derived.Deep.QuietTactic
import Derived.Deep.Slices
import Derived.Deep.Fields
import Derived.ChangeSame
import Derived.ChangeSlices
import Derived.StillTail
import Derived.Deep.Quiet
import Derived.BigQuiet
import Derived.RegionTactic
import Derived.BigRegion
namespace Go.Proofs.YteellffkjjllgaaGreat
open Go.RowKit

theorem yield_any {m m' : Nat} {P : Program} {l : Nat} {args : Array Value} {W : World} {R : Ending → World → Prop} (h : YieldAt Fence.wide m P l args W R) : YieldAt Fence.wide m' P l args W R := by
  obtain ⟨fn, tmps, assign, body, hy, hR⟩ := h
  exact ⟨fn, tmps, assign, body, hy, hR.1, fun c cs _ => hR.2 c cs (room_wide _)⟩

theorem results_cell1 {P : Program} {fn : Func} {p : Tmp} {ty : TypeId} (h : fn.results = #[.cell p ty]) (tmps : Array Value) (w : World) (ad : Addr) (v : Value) (hp : tmps.getD p undef = .pointer (some ad)) (ha : ∀ w, (isAgg ty).run P w = .ok false w) (hc : w.cell? ad = some v) :
    (results fn tmps).run P w = .ok v w := by
  have hp' : tmps[p]?.getD undef = .pointer (some ad) := by simpa using hp
  simp [results, h, hp', asAddr, loadVar, Sem.run_bind, ha, hc, Result.andThen]

theorem results_cell2 {P : Program} {fn : Func} {p q : Tmp} {ty tq : TypeId} (h : fn.results = #[.cell p ty, .cell q tq]) (tmps : Array Value) (w : World) (ad ad' : Addr) (v v' : Value) (hp : tmps.getD p undef = .pointer (some ad)) (hq : tmps.getD q undef = .pointer (some ad'))
    (ha : ∀ w, (isAgg ty).run P w = .ok false w) (ha' : ∀ w, (isAgg tq).run P w = .ok false w) (hc : w.cell? ad = some v) (hc' : w.cell? ad' = some v') :
    (results fn tmps).run P w = .ok (.tuple #[v, v']) w := by
  have hp' : tmps[p]?.getD undef = .pointer (some ad) := by simpa using hp
  have hq' : tmps[q]?.getD undef = .pointer (some ad') := by simpa using hq
  simp [results, h, hp', hq', asAddr, loadVar, Sem.run_bind, ha, ha', hc, hc', Result.andThen]

/-- A block that holds a known object. -/
def objT (b : Nat) (o : Obj) : Thing 0 where
  holds O w := w.heap[b]? = some o ∧ O = fun k => k = b
  lt := by
    rintro O w ⟨h, rfl⟩ k rfl
    exact ⟨Nat.zero_le _, (Array.getElem?_eq_some_iff.1 h).1⟩
  keep := by
    rintro O w w' ⟨h, rfl⟩ hk
    exact ⟨(hk b rfl).trans h, rfl⟩

section
variable {U : Nat → Prop} {w0 w : World} {l : List (Thing 0)} {t : Thing 0} {b : Nat} {o : Obj}

theorem Moved.putObj {O : Nat → Prop} {u v : World} (h : Moved O u v) {b : Nat} (hb : O b ∨ u.heap.size ≤ b) (o : Obj) : Moved O u (v.putObj b o) :=
  h.trans (O' := fun k => k = b) ⟨rfl, rfl, rfl, by simp, fun k _ hn => World.putObj_heap_other hn⟩ (fun i hi => hi ▸ hb)

theorem Crew.obj (h : Crew U w0 l w) (i : Nat) (hi : l[i]? = some (objT b o)) : w.heap[b]? = some o := by
  obtain ⟨O, ⟨ho, rfl⟩, _⟩ := h.one hi
  exact ho

theorem Crew.objNew (h : Crew U w0 l w) (o : Obj) : Crew U w0 (l ++ [objT w.heap.size o]) (w.alloc o) :=
  h.more (t := objT w.heap.size o) ⟨fun k => k = w.heap.size, ⟨World.alloc_heap_new w o, rfl⟩, (Below.refl _ w).alloc (Nat.le_refl _) _, fun _ hk => Nat.le_of_eq hk.symm⟩

theorem Crew.objPut (h : Crew U w0 l w) (i : Nat) (hi : l[i]? = some (objT b o)) (o' : Obj) : Crew U w0 (l.set i (objT b o')) (w.putObj b o') := by
  obtain ⟨O, ⟨ho, rfl⟩, hset, _⟩ := h.one hi
  exact hset _ _ ⟨_, ⟨World.putObj_heap_same (Array.getElem?_eq_some_iff.1 ho).1, rfl⟩, (Moved.refl (fun k => k = b) w).putObj (.inl rfl) _, fun k hk => .inl hk⟩

theorem Crew.only {O : Nat → Prop} (h : t.holds O w) : Crew O w [t] w := by
  refine ⟨Moved.refl _ _, fun _ => O, fun i u hu => ?_, fun i j hi hj hne => ?_⟩
  · match i, hu with
    | 0, hu =>
      simp at hu
      subst hu
      exact ⟨h, fun k hk => .inl hk⟩
    | i + 1, hu => simp at hu
  · simp at hi hj
    omega

/-- Those behind the first one, held as one. -/
theorem Crew.grp (h : Crew U w0 (t :: l) w) : Crew U w0 [t, groupT l] w := by
  obtain ⟨h1, Os, h2, h3⟩ := h
  have e2 : ∀ (i : Nat) (u : Thing 0), l[i]? = some u → u.holds (Os (i + 1)) w ∧ ∀ k, Os (i + 1) k → U k ∨ w0.heap.size ≤ k := fun i u hu => h2 (i + 1) u (by simpa using hu)
  refine ⟨h1, fun i k => if i = 0 then Os 0 k else ∃ j, j < l.length ∧ Os (j + 1) k, fun i u hu => ?_, fun i j hi hj hne k hk hk' => ?_⟩
  · match i, hu with
    | 0, hu =>
      simp at hu
      subst hu
      simpa using h2 0 t (by simp)
    | 1, hu =>
      simp at hu
      subst hu
      refine ⟨⟨fun j => Os (j + 1), fun j u hu => (e2 j u hu).1, fun i j hi hj hne => h3 (i + 1) (j + 1) (by simpa using hi) (by simpa using hj) (by omega), by simp⟩, ?_⟩
      rintro k ⟨j, hj, hk⟩
      exact (e2 j _ (List.getElem?_eq_getElem hj)).2 k hk
    | i + 2, hu => simp at hu
  · simp at hi hj
    match i, j, hi, hj, hne with
    | 0, 0, _, _, hne => exact hne rfl
    | 1, 1, _, _, hne => exact hne rfl
    | 0, 1, _, _, _ =>
      obtain ⟨m, hm, hk2⟩ := hk'
      exact h3 0 (m + 1) (by simp) (by simpa using hm) (by omega) k (by simpa using hk) hk2
    | 1, 0, _, _, _ =>
      obtain ⟨m, hm, hk2⟩ := hk
      exact h3 0 (m + 1) (by simp) (by simpa using hm) (by omega) k (by simpa using hk') hk2

theorem Crew.flat (h : Crew U w0 [t, groupT l] w) : Crew U w0 (t :: l) w := by
  obtain ⟨h1, Os, h2, h3⟩ := h
  obtain ⟨⟨Gs, g1, g2, g3⟩, g4⟩ := h2 1 (groupT l) rfl
  have f1 : ∀ j, j < l.length → ∀ k, Gs j k → Os 1 k := fun j hj k hk => by rw [g3]; exact ⟨j, hj, hk⟩
  refine ⟨h1, fun i => match i with | 0 => Os 0 | i + 1 => Gs i, fun i u hu => ?_, fun i j hi hj hne k hk hk' => ?_⟩
  · match i, hu with
    | 0, hu =>
      simp at hu
      subst hu
      exact h2 0 t rfl
    | i + 1, hu =>
      have hu' : l[i]? = some u := by simpa using hu
      exact ⟨g1 i u hu', fun k hk => g4 k (f1 i (List.getElem?_eq_some_iff.1 hu').1 k hk)⟩
  · match i, j, hi, hj, hne with
    | 0, 0, _, _, hne => exact hne rfl
    | 0, j + 1, _, hj, _ => exact h3 0 1 (by simp) (by simp) (by omega) k hk (f1 j (by simpa using hj) k hk')
    | i + 1, 0, hi, _, _ => exact h3 0 1 (by simp) (by simp) (by omega) k hk' (f1 i (by simpa using hi) k hk)
    | i + 1, j + 1, hi, hj, hne => exact g2 i j (by simpa using hi) (by simpa using hj) (by omega) k hk hk'

end

/-- Nothing. -/
def noT : Thing 0 where
  holds O _ := O = fun _ => False
  lt := by
    rintro O w rfl k hk
    exact hk.elim
  keep := by
    rintro O w w' rfl _
    rfl

section
variable {U : Nat → Prop} {w0 w : World} {l : List (Thing 0)}

/-- Some of them, in another order. -/
theorem Crew.pick (h : Crew U w0 l w) (is : List Nat) (hn : is.Nodup) (hlt' : (is.all fun i => decide (i < l.length)) = true) : Crew U w0 (is.map fun i => l.getD i noT) w := by
  have hlt : ∀ i ∈ is, i < l.length := fun i hi => of_decide_eq_true (List.all_eq_true.1 hlt' i hi)
  obtain ⟨h1, Os, h2, h3⟩ := h
  refine ⟨h1, fun j => Os (is.getD j 0), fun j u hu => ?_, fun i j hi hj hne k hk hk' => ?_⟩
  · rw [List.getElem?_map] at hu
    cases e : is[j]? with
    | none => rw [e] at hu; cases hu
    | some i =>
      rw [e] at hu
      have hil := hlt i (List.mem_of_getElem? e)
      dsimp only
      rw [List.getD_eq_getElem?_getD, e]
      refine h2 i u ?_
      simp only [Option.map_some, List.getD_eq_getElem?_getD, List.getElem?_eq_getElem hil, Option.getD_some, Option.some.injEq] at hu
      rw [List.getElem?_eq_getElem hil, hu]
  · simp only [List.length_map] at hi hj
    simp only [List.getD_eq_getElem?_getD, List.getElem?_eq_getElem hi, List.getElem?_eq_getElem hj, Option.getD_some] at hk hk'
    refine h3 _ _ (hlt _ (List.getElem_mem hi)) (hlt _ (List.getElem_mem hj)) (fun e => hne ?_) k hk hk'
    have hp := List.pairwise_iff_getElem.1 hn
    rcases Nat.lt_trichotomy i j with h | h | h
    · exact (hp i j hi hj h e).elim
    · exact h
    · exact (hp j i hj hi h e.symm).elim

/-- What is held as one, laid open behind the others. -/
theorem Crew.spill {g : List (Thing 0)} (h : Crew U w0 l w) (i : Nat) (hi : l[i]? = some (groupT g)) : Crew U w0 (l.set i noT ++ g) w := by
  obtain ⟨h1, Os, h2, h3⟩ := h
  obtain ⟨⟨Gs, g1, g2, g3⟩, g4⟩ := h2 i (groupT g) hi
  have hil : i < l.length := (List.getElem?_eq_some_iff.1 hi).1
  have f1 : ∀ j, j < g.length → ∀ k, Gs j k → Os i k := fun j hj k hk => by rw [g3]; exact ⟨j, hj, hk⟩
  have low : ∀ j k, j < l.length → (if j < l.length then (if j = i then False else Os j k) else Gs (j - l.length) k) → j ≠ i ∧ Os j k := fun j k hj hk => by
    rw [if_pos hj] at hk
    by_cases e : j = i
    · rw [if_pos e] at hk; exact hk.elim
    · rw [if_neg e] at hk; exact ⟨e, hk⟩
  have high : ∀ j k, ¬ j < l.length → (if j < l.length then (if j = i then False else Os j k) else Gs (j - l.length) k) → Gs (j - l.length) k := fun j k hj hk => by
    rwa [if_neg hj] at hk
  refine ⟨h1, fun j k => if j < l.length then (if j = i then False else Os j k) else Gs (j - l.length) k, fun j u hu => ?_, fun j j' hj hj' hne k hk hk' => ?_⟩
  · by_cases e : j < l.length
    · rw [List.getElem?_append_left (by simpa using e)] at hu
      by_cases e' : j = i
      · subst e'
        rw [List.getElem?_set_self hil] at hu
        cases hu
        exact ⟨by funext k; simp [e], fun k hk => ((low j k e hk).1 rfl).elim⟩
      · rw [List.getElem?_set_ne (fun h => e' h.symm)] at hu
        have := h2 j u hu
        simp only [e, e', if_true, if_false]
        exact this
    · rw [List.getElem?_append_right (by simpa using e)] at hu
      simp only [List.length_set] at hu
      simp only [e, if_false]
      exact ⟨g1 _ u hu, fun k hk => g4 k (f1 _ (List.getElem?_eq_some_iff.1 hu).1 k hk)⟩
  · simp only [List.length_append, List.length_set] at hj hj'
    by_cases e : j < l.length
    · obtain ⟨n1, o1⟩ := low j k e hk
      by_cases e' : j' < l.length
      · exact h3 j j' e e' hne k o1 (low j' k e' hk').2
      · exact h3 j i e hil n1 k o1 (f1 _ (by omega) k (high j' k e' hk'))
    · have o1 := high j k e hk
      by_cases e' : j' < l.length
      · obtain ⟨n2, o2⟩ := low j' k e' hk'
        exact h3 j' i e' hil n2 k o2 (f1 _ (by omega) k o1)
      · exact g2 _ _ (by omega) (by omega) (by omega) k o1 (high j' k e' hk')

/-- The first ones, held as one. -/
theorem Crew.bunch {l1 l2 : List (Thing 0)} (h : Crew U w0 (l1 ++ l2) w) : Crew U w0 (groupT l1 :: l2) w := by
  obtain ⟨h1, Os, h2, h3⟩ := h
  have e1 : ∀ (i : Nat) (u : Thing 0), l1[i]? = some u → u.holds (Os i) w ∧ ∀ k, Os i k → U k ∨ w0.heap.size ≤ k := fun i u hu => h2 i u (by rw [List.getElem?_append_left (List.getElem?_eq_some_iff.1 hu).1]; exact hu)
  have e2 : ∀ (i : Nat) (u : Thing 0), l2[i]? = some u → u.holds (Os (l1.length + i)) w ∧ ∀ k, Os (l1.length + i) k → U k ∨ w0.heap.size ≤ k := fun i u hu => h2 (l1.length + i) u (by rw [List.getElem?_append_right (by omega)]; simpa using hu)
  refine ⟨h1, fun i k => match i with | 0 => ∃ j, j < l1.length ∧ Os j k | i + 1 => Os (l1.length + i) k, fun i u hu => ?_, fun i j hi hj hne k hk hk' => ?_⟩
  · match i, hu with
    | 0, hu =>
      simp at hu
      subst hu
      refine ⟨⟨Os, fun j u hu => (e1 j u hu).1, fun i j hi hj hne => h3 i j (by simp; omega) (by simp; omega) hne, rfl⟩, ?_⟩
      rintro k ⟨j, hj, hk⟩
      exact (e1 j _ (List.getElem?_eq_getElem hj)).2 k hk
    | i + 1, hu => exact e2 i u (by simpa using hu)
  · match i, j, hi, hj, hne with
    | 0, 0, _, _, hne => exact hne rfl
    | 0, j + 1, _, hj, _ =>
      obtain ⟨m, hm, hk2⟩ := hk
      exact h3 m (l1.length + j) (by simp; omega) (by simp at hj ⊢; omega) (by omega) k hk2 hk'
    | i + 1, 0, hi, _, _ =>
      obtain ⟨m, hm, hk2⟩ := hk'
      exact h3 m (l1.length + i) (by simp; omega) (by simp at hi ⊢; omega) (by omega) k hk2 hk
    | i + 1, j + 1, hi, hj, hne => exact h3 (l1.length + i) (l1.length + j) (by simp at hi ⊢; omega) (by simp at hj ⊢; omega) (by omega) k hk hk'

theorem Crew.ex {α : Type} {f : α → Thing 0} (h : Crew U w0 l w) (i : Nat) (hi : l[i]? = some (exT f)) : ∃ a, Crew U w0 (l.set i (f a)) w := by
  obtain ⟨O, ⟨a, ho⟩, hset, _⟩ := h.one hi
  exact ⟨a, hset _ _ (Turns.same ho)⟩

theorem Crew.with {p : Prop} {t : Thing 0} (h : Crew U w0 l w) (i : Nat) (hi : l[i]? = some (withT p t)) : p ∧ Crew U w0 (l.set i t) w := by
  obtain ⟨O, ⟨hp, ho⟩, hset, _⟩ := h.one hi
  exact ⟨hp, hset _ _ (Turns.same ho)⟩

theorem Crew.idle (h : Crew U w0 l w) : Crew U w0 (l ++ [noT]) w :=
  h.more (t := noT) ⟨fun _ => False, rfl, Below.refl _ _, fun _ hk => hk.elim⟩

end

/-- 'append' to a row that is one of several things, in a round too. -/
theorem wpListIn_append_crew {F : Fence} {nF : Nat} {P : Program} {U : Nat → Prop} {w0 w : World} {l : List (Thing 0)} {e z n : Nat} {xs : List Value} {ops : Array Oper} {rest : List Oper} {o : Oper} {a : Act} {Q : Exit → Act → World → Prop} (h : Crew U w0 l w) (i : Nat) {v : Value} (hi : l[i]? = some (rowT 0 e z v n xs)) (hgd : o.guard = none) (s x : Operand) (t : TypeId)
    (ho : o.op = .call { callee := .builtin .append, args := #[s, x], argTypes := #[t, t] }) (zv : Value) (bytes : Nat) (ht : P.underlying t = some (.slice e)) (hinfo : (P.info? e).map (fun i => (i.zero, i.size, i.bytes)) = some (some zv, z, bytes)) (hzs : zv.cells.size = z) (hsz : 0 < z)
    (hs : a.eval s = v) (ad : Addr) (m c : Nat) (news : List Value) (hx : a.eval x = .slice (some ad) m c) (hl : news.length = m * z) (hnews : ∀ j u, news[j]? = some u → w.cell? (ad.add j) = some u) (h1 : ∀ u ∈ news, u.oneCell' = true)
    (h63 : n + m ≤ maxLen) (hbytes : (n + m) * bytes ≤ 140737488355328)
    (hK : ∀ v' w', Crew U w0 (l.set i (rowT 0 e z v' (n + m) (xs ++ news))) w' → wpListIn F nF P ops Q rest (a.put o.dst v') w') : wpListIn F nF P ops Q (o :: rest) a w := by
  obtain ⟨v', w', hr, h2⟩ := run_append_crew (P := P) h i hi t o.type zv bytes ht hinfo hzs hsz ad m c news hl hnews h1 h63 hbytes
  refine wpListIn_plain hgd fun K hK' => ?_
  unfold Oper.wpIn
  refine ⟨by simp [Oper.about, ho, resolve, Target.leads, Sem.run_pure], ?_⟩
  rw [Oper.semAt_plain F _ _ (by rw [ho]; intro c hc'; cases hc')]
  simp [execOp, ho, resolve, invoke, builtin, hs, hx, hr, Result.andThen]
  exact hK' _ _ (hK v' w' h2)

/-- What a call of yield does to the things of the loop: J behind what has come; Jx, where no more is asked for. -/
def Yields {α : Type} (P : Program) (l : Nat) (encs : α → Array Value) (xs : List α) (J Jx : List α → Thing 0) : Prop :=
  ∀ pre x O W, pre ++ [x] <+: xs → (J pre).holds O W → YieldAt Fence.wide 0 P l (encs x) W fun e W' =>
    (e = .returned (.bool true) ∧ Turns (J (pre ++ [x])) O W W') ∨ (e = .returned (.bool false) ∧ Turns (Jx (pre ++ [x])) O W W')

/-- The function value gives xs, one behind the other; of what lay in W0 it reads the blocks R alone. -/
def Gives {α : Type} (P : Program) (gf : Nat) (lb : Array Value) (encs : α → Array Value) (xs : List α) (R : Nat → Prop) (W0 : World) : Prop :=
  (∀ k, R k → k < W0.heap.size) ∧ ∀ (l : Nat) (J Jx : List α → Thing 0) (O : Nat → Prop) (W : World), W0.heap.size ≤ W.heap.size → (∀ k, R k → W.heap[k]? = W0.heap[k]?) → (∀ k, R k → ¬ O k) → (J []).holds O W → Yields P l encs xs J Jx →
    Calls P gf (#[.func (.yield l) #[] #[]] ++ lb) W fun e W' => (∃ v, e = .returned v) ∧ (Turns (J xs) O W W' ∨ ∃ pre, pre <+: xs ∧ Turns (Jx pre) O W W')

theorem Gives.later {α : Type} {P : Program} {gf : Nat} {lb : Array Value} {encs : α → Array Value} {xs : List α} {R : Nat → Prop} {W0 W1 : World} (h : Gives P gf lb encs xs R W0) (hs : W0.heap.size ≤ W1.heap.size) (hR : ∀ k, R k → W1.heap[k]? = W0.heap[k]?) :
    Gives P gf lb encs xs R W1 :=
  ⟨fun k hk => Nat.lt_of_lt_of_le (h.1 k hk) hs, fun l J Jx O W hW hk hO h0 hY => h.2 l J Jx O W (Nat.le_trans hs hW) (fun k hr => (hk k hr).trans (hR k hr)) hO h0 hY⟩

/-- How the body of a round may be left. -/
def turnPost {α : Type} (I : List α → Thing 0) (Ix : Code → List α → Thing 0) (xs : List α) (O : Nat → Prop) (W : World) : Exit → Act → World → Prop
  | .normal, _, W' => Turns (I xs) O W W'
  | .ret, _, W' => Turns (Ix .ret xs) O W W'
  | .exit id, _, W' => Turns (Ix (.exit id) xs) O W W'
  | .goto t, _, W' => Turns (Ix (.goto t) xs) O W W'
  | .panic _, _, _ => False
  | .outgrown, _, _ => False

/-- The statement 'for x := range g', over things in memory. -/
theorem wpIn_range {α : Type} {P : Program} {n : Nat} {g : Operand} {ps : Array Tmp} {assign body : Code} {Q : Exit → Act → World → Prop} {a : Act} {w : World}
    {gf : Nat} {lb : Array Value} (hg : a.eval g = .func (.func gf) #[] lb) (eg : ∀ args w, (callFunc gf args).run P w = .ok (.enter gf args) w)
    {encs : α → Array Value} {xs : List α} {R : Nat → Prop} {W0 : World} (hgv : Gives P gf lb encs xs R W0) (hsz : W0.heap.size ≤ w.heap.size) (hR : ∀ k, R k → w.heap[k]? = W0.heap[k]?) (hps : ∀ x, (encs x).size = ps.size)
    {U : Nat → Prop} {w0 : World} {S : Thing 0} (I : List α → Thing 0) (Ix : Code → List α → Thing 0) (A : List α → α → Act → Thing 0) (C : Crew U w0 [S, I []] w)
    (hS : ∀ OS W, S.holds OS W → ∀ k, R k → OS k ∨ (k < w0.heap.size ∧ ¬ U k))
    (hassign : ∀ (l : Nat) (pre : List α) (x : α) (O : Nat → Prop) (W : World) (K : Act → World → Prop), (I pre).holds O W → (∀ a' W', Turns (A pre x a') O W W' → K a' W') →
      assign.wpIn (Fence.wide.inRound l) (n - 1 - 1) P (Exit.then K (fun _ _ _ => False)) { tmps := (ps.zip (encs x)).foldl (fun t (p, v) => t.setIfInBounds p v) a.tmps, defers := [] } W)
    (hbody : ∀ (l : Nat) (pre : List α) (x : α) (a' : Act) (O : Nat → Prop) (W : World), pre ++ [x] <+: xs → (A pre x a').holds O W → body.wpIn (Fence.wide.inRound l) (n - 1 - 1) P (turnPost I Ix (pre ++ [x]) O W) a' W)
    (hdone : ∀ (D : Nat) (W : World), Crew U w0 [S, I xs, objT D (.deferred (some []))] W → Q .normal { a with defers := { target := .collected D, args := #[] } :: a.defers } W)
    (hstop : ∀ (D : Nat) (c : Code) (pre : List α) (W : World), pre <+: xs → Crew U w0 [S, Ix c pre, objT D (.deferred (some []))] W → c.wpIn Fence.wide n P Q { a with defers := { target := .collected D, args := #[] } :: a.defers } W) :
    (Code.rangeFunc g ps assign body).wpIn Fence.wide n P Q a w := by
  refine wpIn_rangeFunc ?_
  intro fn hfn
  obtain ⟨rec, hrec⟩ : ∃ rec : LoopState → Option Code → Loop, rec = fun st pe => { state := st, pending := pe, fn, tmps := a.tmps, params := ps, assign, body, defers := w.heap.size } := ⟨_, rfl⟩
  obtain ⟨W1, hW1⟩ : ∃ W1, (w.alloc (.deferred (some []))).alloc (.loop (rec .ready none)) = W1 := ⟨_, rfl⟩
  have C1 : Crew U w0 [S, I [], objT w.heap.size (.deferred (some [])), objT (w.heap.size + 1) (.loop (rec .ready none))] W1 := by
    rw [← hW1]
    have := (C.objNew (.deferred (some []))).objNew (.loop (rec .ready none))
    rw [World.size_alloc] at this
    exact this
  have hb1 : Below w.heap.size w W1 := by rw [← hW1]; exact ((Below.refl _ w).alloc (Nat.le_refl _) _).alloc (by simp) _
  refine ⟨w.heap.size + 1, [{ target := .collected w.heap.size, args := #[] }], W1, { target := .fn (.func gf) lb, args := #[.func (.yield (w.heap.size + 1)) #[] #[]] }, W1, gf,
    #[.func (.yield (w.heap.size + 1)) #[] #[]] ++ lb, W1, ?_, ?_, ?_, ?_, fun h => by simp [Fence.wide] at h, ?_⟩
  · rw [← hW1, hrec]; exact run_enterLoop_outer _ _ _ _ _
  · simp only [resolve, hg]
    simp [go_sem]
  · intro f' _; trivial
  · simp [invoke, go_sem, eg]
  · refine callsIn_wide.2 ?_
    have C2 := C1.grp
    obtain ⟨OJ, hoJ, hset, hoth, hU⟩ := C2.one (i := 1) rfl
    obtain ⟨OS, hoS, hdj⟩ := hoth 0 S (by omega) rfl
    have hRlt : ∀ k, R k → k < w.heap.size := fun k hk => Nat.lt_of_lt_of_le (hgv.1 k hk) hsz
    have hRO : ∀ k, R k → ¬ OJ k := by
      intro k hk ho
      rcases hS OS W1 hoS k hk with h | ⟨h1, h2⟩
      · exact hdj k h ho
      · rcases hU k ho with h | h
        · exact h2 h
        · omega
    refine (hgv.2 (w.heap.size + 1)
      (fun pre => groupT [I pre, objT w.heap.size (.deferred (some [])), objT (w.heap.size + 1) (.loop (rec .ready none))])
      (fun pre => exT fun c => groupT [Ix c pre, objT w.heap.size (.deferred (some [])), objT (w.heap.size + 1) (.loop (rec .done (some c)))])
      OJ W1 (Nat.le_trans hsz hb1.size) (fun k hk => (hb1.block k (hRlt k hk)).trans (hR k hk)) hRO hoJ ?_).mono ?_
    · -- one round
      intro pre x O W hpre hJ
      have CW := groupT_open hJ
      have hl : W.heap[w.heap.size + 1]? = some (.loop (rec .ready none)) := CW.obj 2 rfl
      have hy := run_yield (P := P) (args := encs x) hl (by rw [hrec]; exact hps x)
      rw [hrec] at hy
      obtain ⟨OI, hoI, hsetI, _⟩ := CW.one (i := 0) rfl
      refine ⟨fn, _, assign, body, hy, ?_⟩
      have hround := roundIn_of_wpIn (F := Fence.wide) (n := n - 1 - 1) (P := P) (l := w.heap.size + 1) (f := fn) (tmps := (ps.zip (encs x)).foldl (fun t (p, v) => t.setIfInBounds p v) a.tmps) (assign := assign) (body := body) (w := W)
        (R := fun e W' => (e = .returned (.bool true) ∧ Turns (groupT [I (pre ++ [x]), objT w.heap.size (.deferred (some [])), objT (w.heap.size + 1) (.loop (rec .ready none))]) O W W') ∨
          (e = .returned (.bool false) ∧ Turns (exT fun c => groupT [Ix c (pre ++ [x]), objT w.heap.size (.deferred (some [])), objT (w.heap.size + 1) (.loop (rec .done (some c)))]) O W W')) hfn
        (hassign _ pre x OI W _ hoI ?_)
      · exact ⟨hround.1, fun c cs _ => hround.2 c cs (room_wide _)⟩
      clear hy
      intro a' Wa hTa
      have Ca := hsetI _ _ hTa
      have hla : Wa.heap[w.heap.size + 1]? = some (.loop (rec .ready none)) := Ca.obj 2 rfl
      refine ⟨_, run_beginRound hla (by rw [hrec]), ?_⟩
      have Cb := Ca.objPut 2 rfl (.loop { rec .ready none with state := .busy })
      obtain ⟨OA, hoA, hsetA, _⟩ := Cb.one (i := 0) rfl
      refine wpIn_mono (hbody _ pre x a' OA _ hpre hoA) ?_
      have fin : ∀ (jump : Option Code) (t : Thing 0) (W3 : World), Turns t OA (Wa.putObj (w.heap.size + 1) (.loop { rec .ready none with state := .busy })) W3 →
          (Instr.endRound (w.heap.size + 1) jump).run P W3 = .ok (.bool jump.isNone) (W3.putObj (w.heap.size + 1) (.loop (rec (if jump.isNone then .ready else .done) jump))) ∧
          Turns (groupT [t, objT w.heap.size (.deferred (some [])), objT (w.heap.size + 1) (.loop (rec (if jump.isNone then .ready else .done) jump))]) O W (W3.putObj (w.heap.size + 1) (.loop (rec (if jump.isNone then .ready else .done) jump))) := fun jump t W3 hT => by
        have Cc := hsetA _ _ hT
        have hl3 : W3.heap[w.heap.size + 1]? = some (.loop { rec .ready none with state := .busy }) := Cc.obj 2 rfl
        have hre := run_endRound (P := P) jump hl3
        have Cd := Cc.objPut 2 rfl (.loop (rec (if jump.isNone then .ready else .done) jump))
        refine ⟨?_, groupT_shut Cd⟩
        rw [hrec] at hre ⊢
        exact hre
      rintro e a3 W3 hp
      cases e with
      | normal =>
        obtain ⟨hr, ht⟩ := fin none _ W3 hp
        exact ⟨_, _, hr, .inl ⟨rfl, ht⟩⟩
      | ret =>
        obtain ⟨hr, ht⟩ := fin (some .ret) _ W3 hp
        exact ⟨_, _, hr, .inr ⟨rfl, Turns.ex .ret ht⟩⟩
      | exit id =>
        obtain ⟨hr, ht⟩ := fin (some (.exit id)) _ W3 hp
        exact ⟨_, _, hr, .inr ⟨rfl, Turns.ex (.exit id) ht⟩⟩
      | goto t =>
        obtain ⟨hr, ht⟩ := fin (some (.goto t)) _ W3 hp
        exact ⟨_, _, hr, .inr ⟨rfl, Turns.ex (.goto t) ht⟩⟩
      | panic ch => exact hp.elim
      | outgrown => exact hp.elim
    · -- behind the iterator
      rintro e W2 ⟨⟨v, rfl⟩, hT | ⟨pre, hpre, hT⟩⟩
      · have C3 := (hset _ _ hT).flat
        have hl : W2.heap[w.heap.size + 1]? = some (.loop (rec .ready none)) := C3.obj 3 rfl
        refine ⟨none, _, by have := run_endLoop (P := P) hl (by rw [hrec]; simp); rw [hrec] at this; exact this, ?_⟩
        have C4 := C3.objPut 3 rfl (.loop { rec .ready none with state := .exhausted })
        rw [hrec] at C4
        exact hdone _ _ (Crew.first (l := [S, I xs, objT w.heap.size (.deferred (some []))]) C4)
      · obtain ⟨O', ⟨c, hc⟩, hm, hk⟩ := hT
        have C3 := (hset _ _ ⟨O', hc, hm, hk⟩).flat
        have hl : W2.heap[w.heap.size + 1]? = some (.loop (rec .done (some c))) := C3.obj 3 rfl
        refine ⟨some c, _, by have := run_endLoop (P := P) hl (by rw [hrec]; simp); rw [hrec] at this; exact this, ?_⟩
        have C4 := C3.objPut 3 rfl (.loop { rec .done (some c) with state := .exhausted })
        rw [hrec] at C4
        exact hstop _ c pre _ hpre (Crew.first (l := [S, Ix c pre, objT w.heap.size (.deferred (some []))]) C4)

end Go.Proofs.YteellffkjjllgaaGreat

namespace Go.Proofs.YteellffkjjllgaaGreat
open Go.ChangeShapes Go.WideShapes Go.ChangeAt Go.RowKit

theorem own : ownKnob Tryz.prog.godebug = none := by kernel_rfl
theorem laidOut : laidOutB Tryz.prog = true := by kernel_rfl

def IsRow (k : IntKind) (w : World) (a : Option Addr) (len cap : Nat) (zs : List Int) : Prop :=
  (a = none ∧ len = 0 ∧ cap = 0 ∧ zs = []) ∨
  ∃ x, a = some x ∧ len ≤ cap ∧ cap ≤ maxLen ∧ zs.length = cap ∧ (∀ i, i < zs.length → w.cell? (x.add i) = some (.int k (zs.getD i 0))) ∧ ∀ n ∈ zs, (Lit.int k n).wf = true

theorem below_trans {u v w : World} (h : Below u.heap.size u v) (k : Below v.heap.size v w) : Below u.heap.size u w := h.trans (k.mono h.size)

theorem ba {u v : World} (h : Below u.heap.size u v) (o : Obj) : Below u.heap.size u (v.alloc o) := h.alloc h.size o

theorem rel {f : Nat} {args : Array Value} {E : Ending} (h : ∀ w, Calls Tryz.prog f args w fun e w' => e = E ∧ Below w.heap.size w w') (w : World) : ∀ w1, Below w.heap.size w w1 → Calls Tryz.prog f args w1 fun e w' => e = E ∧ Below w.heap.size w w' :=
  fun w1 hb => (h w1).mono fun _ _ ⟨he, hw⟩ => ⟨he, below_trans hb hw⟩

theorem relS {f : Nat} {args : Array Value} {E : Ending} (h : ∀ w, Calls Tryz.prog f args w fun e w' => e = E ∧ w = w') (w : World) : ∀ w1, Below w.heap.size w w1 → Calls Tryz.prog f args w1 fun e w' => e = E ∧ Below w.heap.size w w' :=
  fun w1 hb => (h w1).mono fun _ _ ⟨he, hw⟩ => ⟨he, hw ▸ hb⟩

theorem extract_take (s : ByteArray) (k : Nat) : s.extract 0 k = ⟨(s.data.toList.take k).toArray⟩ := by
  apply ByteArray.ext
  rw [ByteArray.data_extract]
  apply Array.ext'
  rw [Array.toList_extract, List.extract_eq_take_drop]
  simp

theorem extract_all (s : ByteArray) : s.extract 0 s.size = s := by
  rw [extract_take]
  apply ByteArray.ext
  apply Array.ext'
  exact List.take_of_length_le (by simp)

theorem row_block {w : World} {a : Addr} {v : Value} (h : w.cell? a = some v) : a.block < w.heap.size := by
  by_cases hlt : a.block < w.heap.size
  · exact hlt
  · have hn : w.heap[a.block]? = none := by simp; omega
    simp [World.cell?, hn] at h

theorem nat_of32 {a : Int} (h : (Lit.int .u32 a).wf = true) : ∃ n : Nat, a = (n : Int) ∧ n < 4294967296 := by
  simp only [Lit.wf, Bool.and_eq_true, decide_eq_true_eq] at h
  have h' : 0 ≤ a ∧ a ≤ 4294967295 := h
  exact ⟨a.toNat, by omega, by omega⟩

theorem nat_of8 {a : Int} (h : (Lit.int .u8 a).wf = true) : ∃ n : Nat, a = (n : Int) ∧ n < 256 := by
  simp only [Lit.wf, Bool.and_eq_true, decide_eq_true_eq] at h
  have h' : 0 ≤ a ∧ a ≤ 255 := h
  exact ⟨a.toNat, by omega, by omega⟩

theorem nat_of {a : Int} (h : (Lit.int .u64 a).wf = true) : ∃ n : Nat, a = (n : Int) ∧ n < 18446744073709551616 := by
  simp only [Lit.wf, Bool.and_eq_true, decide_eq_true_eq] at h
  have h' : 0 ≤ a ∧ a ≤ 18446744073709551615 := h
  exact ⟨a.toNat, by omega, by omega⟩

/-- A region that draws its order, whose operations only read and whose callees make at most new memory: walked once, in the text's order. -/
theorem wp_region_below {id : Nat} {Q : Exit → Act → World → Prop} {a : Act} {w0 w : World} {l : List Oper} (hb : Below w0.heap.size w0 w) (hm : Tryz.prog.follows .mixedOrders = true) (hB : Region.lexB .any l.toArray = true)
    (h : wpQuiet Tryz.prog l.toArray (fun w' => Below w0.heap.size w0 w') (fun a' => ∀ w', Below w0.heap.size w0 w' → Q .normal a' w') l a) : (Code.region id l.toArray true).wp Tryz.prog Q a w :=
  wp_region_quiet (C := fun w' => Below w0.heap.size w0 w') hm hB ⟨hb.os, hb.tape, hb.output, hb.size, hb.block⟩ (by simpa using h)

end Go.Proofs.YteellffkjjllgaaGreat

namespace Go.Rc5

abbrev SpI := Int × Int

def flatI : List SpI → List Value
  | [] => []
  | s :: r => .int .i64 s.1 :: .int .i64 s.2 :: flatI r

def castS (l : List Sp) : List SpI := l.map fun s => ((s.1 : Int), (s.2 : Int))

def bools (B : List Bool) : List Value := B.map Value.bool

def In64 (x : Int) : Prop := -9223372036854775808 ≤ x ∧ x ≤ 9223372036854775807

/-- A row of spans, read. -/
def SpansAt (w : World) (a : Option Addr) (L : List SpI) : Prop :=
  ∀ i, i < L.length → ∃ x, a = some x ∧ w.cell? (x.add (i * 2)) = some (.int .i64 (L.getD i (0, 0)).1) ∧ w.cell? ⟨(x.add (i * 2)).block, (x.add (i * 2)).off + 1, none⟩ = some (.int .i64 (L.getD i (0, 0)).2)

/-- A row of marks, read. -/
def BoolsAt (w : World) (a : Option Addr) (B : List Bool) : Prop := ∀ i, i < B.length → ∃ x, a = some x ∧ w.cell? (x.add i) = some (.bool (B.getD i false))

theorem flatI_length (L : List SpI) : (flatI L).length = L.length * 2 := by
  induction L with
  | nil => rfl
  | cons x r ih => simp [flatI, ih]; omega

theorem flatI_append (p q : List SpI) : flatI (p ++ q) = flatI p ++ flatI q := by
  induction p with
  | nil => rfl
  | cons x r ih => simp [flatI, ih]

theorem flatI_one (L : List SpI) : ∀ u ∈ flatI L, u.oneCell' = true := by
  induction L with
  | nil => intro u hu; cases hu
  | cons x r ih =>
    intro u hu
    simp only [flatI, List.mem_cons] at hu
    rcases hu with rfl | rfl | hu
    · rfl
    · rfl
    · exact ih u hu

theorem flatI_at (L : List SpI) (i : Nat) (h : i < L.length) : (flatI L)[i * 2]? = some (.int .i64 (L.getD i (0, 0)).1) ∧ (flatI L)[i * 2 + 1]? = some (.int .i64 (L.getD i (0, 0)).2) := by
  induction L generalizing i with
  | nil => simp at h
  | cons x r ih =>
    cases i with
    | zero => simp [flatI]
    | succ i =>
      have := ih i (by simpa using h)
      have e1 : (i + 1) * 2 = i * 2 + 1 + 1 := by omega
      rw [e1]
      simpa [flatI] using this

theorem flatI_set1 (L : List SpI) (i : Nat) (h : i < L.length) (v : Int) : (flatI L).set (i * 2 + 1) (.int .i64 v) = flatI (L.set i ((L.getD i (0, 0)).1, v)) := by
  induction L generalizing i with
  | nil => simp at h
  | cons x r ih =>
    cases i with
    | zero => simp [flatI]
    | succ i =>
      have := ih i (by simpa using h)
      have e1 : (i + 1) * 2 + 1 = i * 2 + 1 + 1 + 1 := by omega
      rw [e1]
      simpa [flatI] using this

theorem castS_length (l : List Sp) : (castS l).length = l.length := by simp [castS]
theorem castS_append (l l' : List Sp) : castS (l ++ l') = castS l ++ castS l' := by simp [castS]

theorem rows_app {f : Nat → Bool} {k : Nat} (hf : f k = true) (hn : ¬ (0 < k ∧ f (k - 1) = true)) : castS (rows f (k + 1)) = castS (rows f k) ++ [((k : Int), 1)] := by
  rw [rows, if_pos hf, if_neg hn, castS_append]
  rfl

theorem castS_inj {l l' : List Sp} (h : castS l = castS l') : l = l' := by
  induction l generalizing l' with
  | nil => cases l' with
    | nil => rfl
    | cons s r => simp [castS] at h
  | cons s r ih => cases l' with
    | nil => simp [castS] at h
    | cons t q =>
      simp only [castS, List.map_cons, List.cons.injEq, Prod.mk.injEq] at h
      obtain ⟨⟨h1, h2⟩, h3⟩ := h
      rw [ih h3, Prod.ext (by omega : s.1 = t.1) (by omega : s.2 = t.2)]

theorem bools_get (B : List Bool) (j : Nat) (h : j < B.length) : (bools B)[j]? = some (.bool (B.getD j false)) := by
  simp [bools, List.getElem?_map, List.getElem?_eq_getElem h, List.getD_eq_getElem?_getD]

theorem bools_set (B : List Bool) (j : Nat) (b : Bool) : (bools B).set j (.bool b) = bools (B.set j b) := by simp [bools, List.map_set]

theorem SpansAt.later {w w' : World} {a : Option Addr} {L : List SpI} (h : SpansAt w a L) (hk : ∀ x v, w.cell? x = some v → w'.cell? x = some v) : SpansAt w' a L := by
  intro i hi
  obtain ⟨x, hx, c0, c1⟩ := h i hi
  exact ⟨x, hx, hk _ _ c0, hk _ _ c1⟩

theorem BoolsAt.later {w w' : World} {a : Option Addr} {B : List Bool} (h : BoolsAt w a B) (hk : ∀ x v, w.cell? x = some v → w'.cell? x = some v) : BoolsAt w' a B := by
  intro i hi
  obtain ⟨x, hx, c0⟩ := h i hi
  exact ⟨x, hx, hk _ _ c0⟩

theorem in64_of {x : Int} (h : (Lit.int .i64 x).wf = true) : In64 x := by
  simp only [Lit.wf, Bool.and_eq_true, decide_eq_true_eq] at h
  exact h

end Go.Rc5
namespace Go.Proofs.YteellffkjjllgaaGreat
open Go.ChangeShapes Go.WideShapes Go.ChangeAt Go.RowKit Go.Rc5 Go.Deep

theorem add_own (g i : Nat) : (⟨g, 0, none⟩ : Addr).add i = ⟨g, i, none⟩ := by unfold Addr.add; split <;> simp_all

theorem SpansAt.below {w w' : World} {a : Option Addr} {L : List SpI} (h : SpansAt w a L) (hb : Below w.heap.size w w') : SpansAt w' a L :=
  h.later fun _ _ hc => (hb.cell (row_block hc)).trans hc

theorem BoolsAt.below {w w' : World} {a : Option Addr} {B : List Bool} (h : BoolsAt w a B) (hb : Below w.heap.size w w') : BoolsAt w' a B :=
  h.later fun _ _ hc => (hb.cell (row_block hc)).trans hc

theorem spans_own {w : World} {base e n : Nat} {a : Option Addr} {c : Nat} {L : List SpI} (h : w.ownsRow base e 2 (.slice a n c) n (flatI L)) : L.length = n ∧ SpansAt w a L := by
  have hl : L.length = n := by have := h.1; rw [flatI_length] at this; omega
  refine ⟨hl, fun i hi => ?_⟩
  rcases h.2 with ⟨_, h0⟩ | ⟨g, cap, cur, hv, _⟩
  · omega
  · simp only [Value.slice.injEq] at hv
    obtain ⟨rfl, _, rfl⟩ := hv
    obtain ⟨h0, h1⟩ := flatI_at L i hi
    refine ⟨_, rfl, ?_, ?_⟩
    · rw [add_own]
      exact (own_cell h h0).1
    · rw [add_own]
      exact (own_cell h h1).1

theorem bools_own {w : World} {base e n : Nat} {a : Option Addr} {c : Nat} {B : List Bool} (h : w.ownsRow base e 1 (.slice a n c) n (bools B)) : B.length = n ∧ BoolsAt w a B := by
  have hl : B.length = n := by have := h.1; simpa [bools] using this
  refine ⟨hl, fun i hi => ?_⟩
  rcases h.2 with ⟨_, h0⟩ | ⟨g, cap, cur, hv, _⟩
  · omega
  · simp only [Value.slice.injEq] at hv
    obtain ⟨rfl, _, rfl⟩ := hv
    refine ⟨_, rfl, ?_⟩
    rw [add_own]
    exact (own_cell h (bools_get B i hi)).1

section
variable {H : Type} {enc : TypeId × Value → H} {P : Program} {w : World} {base : Nat} {spare : Nat → Bool} {held : Bool}

theorem add_spelt (x : Addr) (i j : Nat) : x.add (i + (j + 1)) = ⟨(x.add i).block, (x.add i).off + (j + 1), none⟩ := by
  rw [← add_add]
  rfl

/-- Each field of each element of a row of records lies in a cell of its own, and reads there as its type says. -/
theorem field_cells {t e : TypeId} {fs : Array Field} {fuel : Nat} {a : Option Addr} {len cap : Nat} {x : DataW H × List MemPlace} (ht : P.underlying t = some (.slice e)) (he : P.underlying e = some (.struct fs))
    (hone : oneCellFields P fs = true) (hC : P.cellsOf e = fs.size) (h : DataW.trod enc P w base spare held fuel t [.slice a len cap] = some x) :
    len ≤ cap ∧ cap ≤ maxLen ∧ ∀ i, i < len → ∃ b n, a = some b ∧ ∀ (j : Nat) (f : Field), fs[j]? = some f → ∃ v y, w.cell? (b.add (i * fs.size + j)) = some v ∧ DataW.trod enc P w base spare held n f.type [v] = some y := by
  rcases open_slice ht h with ⟨h0, _⟩ | ⟨b, len', cap', m, n, D, Pl, hcs, _, hl, hm, hmm, _, hi⟩
  · simp only [List.cons.injEq, Value.slice.injEq, and_true] at h0
    obtain ⟨rfl, rfl, rfl⟩ := h0
    exact ⟨Nat.le_refl _, Nat.zero_le _, fun i hi => absurd hi (Nat.not_lt_zero _)⟩
  · simp only [List.cons.injEq, Value.slice.injEq, and_true] at hcs
    obtain ⟨rfl, rfl, rfl⟩ := hcs
    refine ⟨hl, hm, fun i hlt => ?_⟩
    obtain ⟨cs, hc, hr⟩ := hi i (by rw [hmm]; split <;> omega)
    rw [hC] at hc
    obtain ⟨_, hn, hat⟩ := World.cells?_some hc
    obtain ⟨ys, n', _, _, _, hyl, hf⟩ := DataW.trod_struct he hr
    refine ⟨b, n', rfl, fun j f hj => ?_⟩
    have hj' : j < fs.size := (Array.getElem?_eq_some_iff.1 hj).1
    obtain ⟨ho, hk⟩ := hone_of hone j f hj
    have h1 := hf j f hj
    have h2 : (cs.drop j).take 1 = [cs[j]'(by omega)] := by rw [List.drop_eq_getElem_cons (by omega)]; rfl
    have h3 : ys[j]? = some (ys[j]'(by omega)) := List.getElem?_eq_getElem (by omega)
    rw [ho, hk, h2, h3] at h1
    refine ⟨_, _, ?_, h1⟩
    rw [← add_add, hat j hj', List.getElem?_eq_getElem (by omega)]

end

/-- What is known of a row of spans that came in. -/
def IsSpans (w : World) (a : Option Addr) (len : Nat) (L : List SpI) : Prop := L.length = len ∧ SpansAt w a L ∧ ∀ s ∈ L, In64 s.1 ∧ In64 s.2

theorem open_spans {H : Type} {enc : TypeId × Value → H} {w : World} {base : Nat} {spare : Nat → Bool} {held : Bool} {fuel : Nat} {a : Option Addr} {len cap : Nat} {x : DataW H × List MemPlace}
    (h : DataW.trod enc Tryz.prog w base spare held fuel 23 [.slice a len cap] = some x) : ∃ L, IsSpans w a len L := by
  obtain ⟨_, _, hi⟩ := field_cells (P := Tryz.prog) (fs := #[_, _]) Tryz.underlying23 Tryz.underlying38 (by kernel_rfl) (by kernel_rfl) h
  have key : ∀ i, ∃ s : SpI, (i < len → ∃ b, a = some b ∧ w.cell? (b.add (i * 2)) = some (.int .i64 s.1) ∧ w.cell? ⟨(b.add (i * 2)).block, (b.add (i * 2)).off + 1, none⟩ = some (.int .i64 s.2)) ∧ In64 s.1 ∧ In64 s.2 := by
    intro i
    by_cases hlt : i < len
    · obtain ⟨b, n, hb, hf⟩ := hi i hlt
      obtain ⟨v0, y0, c0, t0⟩ := hf 0 _ rfl
      obtain ⟨v1, y1, c1, t1⟩ := hf 1 _ rfl
      replace c0 : w.cell? (b.add (i * 2)) = _ := c0
      replace c1 : w.cell? (b.add (i * 2 + 1)) = _ := c1
      rw [add_spelt] at c1
      obtain ⟨n0, e0, _, w0⟩ := DataW.trod_int Tryz.underlying3 t0
      obtain ⟨n1, e1, _, w1⟩ := DataW.trod_int Tryz.underlying3 t1
      simp only [List.cons.injEq, and_true] at e0 e1
      subst e0 e1
      exact ⟨(n0, n1), fun _ => ⟨b, hb, c0, c1⟩, in64_of w0, in64_of w1⟩
    · exact ⟨(0, 0), fun h => absurd h hlt, ⟨by decide, by decide⟩, ⟨by decide, by decide⟩⟩
  refine ⟨(List.range len).map fun i => (key i).choose, by simp, fun i hi => ?_, fun s hs => ?_⟩
  · have hi' : i < len := by simpa using hi
    have e : ((List.range len).map fun i => (key i).choose).getD i (0, 0) = (key i).choose := by
      simp [List.getD_eq_getElem?_getD, hi']
    rw [e]
    exact (key i).choose_spec.1 hi'
  · simp only [List.mem_map] at hs
    obtain ⟨i, _, rfl⟩ := hs
    exact (key i).choose_spec.2

end Go.Proofs.YteellffkjjllgaaGreat

namespace Go.Proofs.YteellffkjjllgaaGreat
open Go.RowKit

section
variable {P : Program} {ops : Array Oper} {md : Region.Mode} {C : World → Prop}

/-- Whatever order is picked among the first n operations; L: what is left to show behind them. -/
def headAny (P : Program) (md : Region.Mode) (ops : Array Oper) (C : World → Prop) (n : Nat) (L : Array Bool → Act → Prop) : Nat → Array Bool → Act → Prop
  | 0, listed, a => L listed a
  | f + 1, listed, a => Region.ready md ops listed ≠ [] ∧ ∀ i ∈ Region.ready md ops listed, i < n ∧ qOp P ops C i (headAny P md ops C n L f (listed.setIfInBounds i true)) a

theorem any_of_headAny {n g : Nat} {L : Array Bool → Act → Prop} {Q' : Exit → Act → World → Prop} (hL : ∀ listed a w, C w → L listed a → wpAny P md ops Q' g listed a w) (f : Nat) :
    ∀ (listed : Array Bool) (a : Act) (w : World), C w → headAny P md ops C n L f listed a → wpAny P md ops Q' (f + g) listed a w := by
  induction f with
  | zero =>
    intro listed a w hw h
    rw [Nat.zero_add]
    exact hL _ _ _ hw h
  | succ f ih =>
    intro listed a w hw h
    rw [Nat.add_right_comm]
    exact ⟨fun h0 => absurd h0 h.1, fun i hi => wpOp_of_qOp hw (fun a' w' hw' h' => ih _ a' w' hw' h') (h.2 i hi).2⟩

/-- An operation of the head that may come up now may be taken first. -/
theorem headAny_first {n i : Nat} {oi : Oper} {v : Value} {L : Array Bool → Act → Prop} (hi : ops[i]? = some oi) (hsel : ∀ (j : Nat) (o : Oper) cs b, ops[j]? = some o → o.op ≠ .select cs b)
    (hs : Region.sinkB md ops n = true) (hc : Region.chainB md ops n = true) (hn : n < ops.size) (hin : i < n) (hdone : ∀ listed a, L listed a → ∀ j ∈ Region.ready md ops listed, n ≤ j) (f : Nat) :
    ∀ (listed : Array Bool) (a : Act), HeadInv md ops n listed →
      (∀ j oj, ops[j]? = some oj → j ≠ i → listed.getD j true = false → (∀ e ∈ oj.after, Region.binds md e = true → e.on ≠ i) → oi.apart ops oj = true) →
      i ∈ Region.ready md ops listed → YieldsIn P ops C oi v a →
      headAny P md ops C n L f (listed.setIfInBounds i true) (a.put oi.dst v) → headAny P md ops C n L (f + 1) listed a := by
  have front : ∀ {listed : Array Bool}, HeadInv md ops n listed → i ∈ Region.ready md ops listed → ∀ j ∈ Region.ready md ops listed, j < n := by
    intro listed inv hr j hj
    by_cases h : j < n
    · exact h
    · exact absurd hj (tail_waits hs hc hn inv _ i rfl hin (mem_ready.1 hr).1 j (by omega))
  induction f with
  | zero =>
    intro listed a inv _ hr hy H
    refine ⟨fun h => (by rw [h] at hr; cases hr), fun j hj => ⟨front inv hr j hj, ?_⟩⟩
    by_cases e : j = i
    · subst e
      exact hy.qOp hi H
    · have h1 := hdone _ _ H j (ready_mono hj e)
      have h2 := front inv hr j hj
      omega
  | succ f ih =>
    intro listed a inv hfree hr hy H
    refine ⟨fun h => (by rw [h] at hr; cases hr), fun j hj => ⟨front inv hr j hj, ?_⟩⟩
    by_cases e : j = i
    · subst e
      exact hy.qOp hi H
    · obtain ⟨hjun, oj, hoj, hall⟩ := mem_ready.1 hj
      have hnot : ∀ x ∈ oj.after, Region.binds md x = true → x.on ≠ i := fun x hx hb heq => by
        have h1 := hall x hx hb
        rw [heq, getD_both (mem_ready.1 hr).1] at h1
        cases h1
      have h2 := qOp_put hoj (hfree j oj hoj e hjun hnot) (fun cs b => hsel i oi cs b hi) (fun cs b => hsel j oj cs b hoj) hy (H.2 j (ready_mono hj e)).2
      refine qOp_mono (fun a' h3 => ih (listed.setIfInBounds j true) a' (inv.set hj (front inv hr j hj)) ?_ (ready_mono hr (Ne.symm e)) h3.1 ?_) h2
      · intro k ok hk hki hun hno
        refine hfree k ok hk hki ?_ hno
        by_cases hjk : j = k
        · subst hjk
          exact hjun
        · rw [getD_set_ne true hjk] at hun
          exact hun
      · rw [Array.setIfInBounds_comm _ _ e]
        exact h3.2

theorem headAny_lex {n g : Nat} {K : Act → Prop} (hsel : Region.noSelect ops = true) (hs : Region.sinkB md ops n = true) (hc : Region.chainB md ops n = true) (hn : n < ops.size) (l : List Oper) :
    ∀ (k : Nat) (listed : Array Bool) (a : Act), (∀ j, j < l.length → l[j]? = ops[k + j]?) → k + l.length = n → HeadInv md ops n listed →
    Region.lexHead md ops g l.length k listed = true → wpQuiet P ops C K l a →
    headAny P md ops C n (fun listed' a' => Region.seqB md ops g n listed' = true ∧ K a') l.length listed a := by
  induction l with
  | nil =>
    intro k listed a _ hk _ hB h
    obtain rfl : k = n := by simpa using hk
    exact ⟨hB, h⟩
  | cons o l ih =>
    intro k listed a hl hk inv hB h
    have h0 : ops[k]? = some o := by simpa using (hl 0 (by simp)).symm
    simp only [List.length_cons, Region.lexHead, Bool.and_eq_true] at hB
    obtain ⟨⟨hr, hf⟩, hB'⟩ := hB
    have hkn : k < n := by simp only [List.length_cons] at hk; omega
    have hr' : k ∈ Region.ready md ops listed := by simpa using hr
    have hst : qOp P ops C k (wpQuiet P ops C K l) a := by unfold qOp; simp only [h0]; exact h
    obtain ⟨v, hy, hK⟩ := yieldsIn_of_qOp h0 hst
    refine headAny_first h0 (Region.noSelect_spec hsel) hs hc hn hkn (fun listed' a' hL => seqB_ready hL.1) l.length listed a inv (Region.free_spec h0 hf) hr' hy ?_
    refine ih (k + 1) _ _ (fun j hj => ?_) (by simp only [List.length_cons] at hk; omega) (inv.set hr' hkn) hB' hK
    have := hl (j + 1) (by simp; omega)
    simpa [Nat.add_assoc, Nat.add_comm 1 j] using this

/-- The head is walked once, quiet in the class C; the tail, from whatever world of the class. -/
theorem wp_region_head {id : Nat} {Q : Exit → Act → World → Prop} {a : Act} {w : World} {l : List Oper} (n : Nat) (hm : P.follows .mixedOrders = true) (hB : Region.lexTailB .any l.toArray n = true) (hC : C { w with drawn := w.drawn + 1 })
    (h : wpQuiet P l.toArray C (fun a' => ∀ w', C w' → wpList P l.toArray Q (l.drop n) a' w') (l.take n) a) : (Code.region id l.toArray true).wp P Q a w := by
  simp only [Region.lexTailB, Bool.and_eq_true, decide_eq_true_eq] at hB
  obtain ⟨⟨⟨⟨hsel, hn⟩, hs⟩, hc⟩, hlex⟩ := hB
  have htl : (l.take n).length = n := by simp only [List.size_toArray] at hn; simp; omega
  have hdl : (l.drop n).length = l.toArray.size - n := by simp
  have inv0 : HeadInv .any l.toArray n (Array.replicate l.toArray.size false) :=
    ⟨by simp, fun j oj _ hl => (by rw [getD_replicate_false] at hl; cases hl), fun t _ ht => getD_in (by simpa using ht) (getD_replicate_false _ _)⟩
  have H := headAny_lex (md := .any) (g := l.toArray.size - n) hsel hs hc hn (l.take n) 0 _ a (fun j hj => by
    have hj' : j < n := by omega
    simp [hj']) (by omega) inv0 (by rw [htl]; exact hlex) h
  refine wp_region_any hm ?_
  have := any_of_headAny (Q' := Q) (g := l.toArray.size - n) (fun listed a' w' hw' hL => by
    have := wpAny_of_seq (md := .any) (Q' := Q) (l.drop n) n listed a' w' (fun j => by simp [List.getElem?_drop]) (by rw [hdl]; exact hL.1) (hL.2 w' hw')
    rwa [hdl] at this) _ _ _ _ hC H
  rw [htl, show n + (l.toArray.size - n) = l.toArray.size by omega] at this
  exact this

end

/-- A world behind w: what was there is there. -/
structure After (w : World) where
  to : World
  is : Below w.heap.size w to

instance (w : World) : Inhabited (After w) := ⟨⟨w, Below.refl _ _⟩⟩

theorem wp_region_after {id : Nat} {Q : Exit → Act → World → Prop} {a : Act} {w : World} {l : List Oper} (hm : Tryz.prog.follows .mixedOrders = true) (hB : Region.lexB .any l.toArray = true)
    (h : wpQuiet Tryz.prog l.toArray (fun w' => ∃ p : After w, w' = p.to) (fun a' => ∀ w', (∃ p : After w, w' = p.to) → Q .normal a' w') l a) : (Code.region id l.toArray true).wp Tryz.prog Q a w :=
  wp_region_quiet (C := fun w' => ∃ p : After w, w' = p.to) hm hB ⟨⟨w.drew, (Below.refl _ w).drew⟩, rfl⟩ (by simpa using h)

theorem wp_region_then {id : Nat} {Q : Exit → Act → World → Prop} {a : Act} {w : World} {l : List Oper} (n : Nat) (hm : Tryz.prog.follows .mixedOrders = true) (hB : Region.lexTailB .any l.toArray n = true)
    (h : wpQuiet Tryz.prog l.toArray (fun w' => ∃ p : After w, w' = p.to) (fun a' => ∀ w', (∃ p : After w, w' = p.to) → wpList Tryz.prog l.toArray Q (l.drop n) a' w') (l.take n) a) : (Code.region id l.toArray true).wp Tryz.prog Q a w :=
  wp_region_head (C := fun w' => ∃ p : After w, w' = p.to) n hm hB ⟨⟨w.drew, (Below.refl _ w).drew⟩, rfl⟩ h

theorem after_call {f : Nat} {args : Array Value} {v : Value} (h : ∀ w, Calls Tryz.prog f args w fun e w' => e = .returned v ∧ Below w.heap.size w w') {w : World} (p : After w) :
    Calls Tryz.prog f args p.to fun e w' => e = .returned v ∧ ∃ q : After w, w' = q.to :=
  (h p.to).mono fun _ w' ⟨he, hw⟩ => ⟨he, ⟨w', p.is.trans (hw.mono p.is.size)⟩, rfl⟩

theorem after_same {f : Nat} {args : Array Value} {v : Value} (h : ∀ w, Calls Tryz.prog f args w fun e w' => e = .returned v ∧ w = w') {w : World} (p : After w) :
    Calls Tryz.prog f args p.to fun e w' => e = .returned v ∧ ∃ q : After w, w' = q.to :=
  (h p.to).mono fun _ _ ⟨he, hw⟩ => ⟨he, p, hw.symm⟩

theorem after_cell {w : World} {a : Addr} {v : Value} (h : w.cell? a = some v) (hb : a.block < w.heap.size) (p : After w) : p.to.cell? a = some v := (p.is.cell hb).trans h

end Go.Proofs.YteellffkjjllgaaGreat

namespace Go.Proofs.YteellffkjjllgaaGreat
open Go.RowKit Go.Rc5

theorem infoP : (Tryz.prog.info? 38).map (fun i => (i.zero, i.size, i.bytes)) = some (some (.agg #[.int .i64 0, .int .i64 0]), 2, 16) := by kernel_rfl

/-- A row of spans of the call's own. -/
abbrev spT (v : Value) (L : List SpI) : Thing 0 := rowT 0 38 2 v L.length (flatI L)

set_option maxHeartbeats 4000000 in
theorem rrow_any (B : List Bool) (a : Option Addr) (c n : Nat) (w : World) (h : BoolsAt w a B) (hn : B.length = n) (hB : n ≤ 8192) :
    Calls Tryz.prog 49 #[.slice a n c] w fun e w' => ∃ v, e = .returned v ∧ Fresh (spT v (castS (rows (fun x => B.getD x false) n))) w w' := by
  have HB := Lib.hid (fun W (hb : Below w.heap.size w W) => BoolsAt.below h hb)
  have HN := Lib.hid hn
  have H0 := Lib.hid ((Crew.start w).nil 38 2)
  clear h hn
  generalize hf : (fun x => B.getD x false) = f at *
  have HF := Lib.hid hf
  clear hf
  go_enter Tryz.func49, Tryz.ntmps49
  go_wp2
  go_loopw [3, 4] (fun v i wr => ∃ k : Nat, i = .int .i64 k ∧ k ≤ n ∧ Crew (fun _ => False) w [spT v (castS (rows f k))] wr) (fun _ i _ => (n - intOf i).toNat)
  case atStart => exact ⟨0, rfl, Nat.zero_le _, H0.out⟩
  case round =>
    obtain ⟨k, rfl, hk, hC⟩ := hrel
    obtain ⟨av, cv, rfl⟩ := hC.slice 0 rfl
    have HC := Lib.hid hC
    by_cases hlt : k < n
    · have hltI : (k : Int) < n := by omega
      obtain ⟨x, rfl, c0⟩ := HB.out wr hC.bel k (by rw [HN.out]; exact hlt)
      have e0 : B.getD k false = f k := by rw [← HF.out]
      rw [e0] at c0
      clear e0
      cases hfk : f k with
      | false =>
        rw [hfk] at c0
        have HR : Hid (rows f (k + 1) = rows f k) := by rw [rows, hfk, if_neg (by decide)]; exact rfl
        clear hC hfk
        go_wp2
        refine ⟨⟨k + 1, by go_num, by omega, ?_⟩, by simp [intOf]; omega⟩
        rw [HR.out]
        exact HC.out
      | true =>
        rw [hfk] at c0
        have HFK := Lib.hid hfk
        rcases Nat.eq_zero_or_pos k with hk0 | hk0
        · subst hk0
          have c0' : wr.cell? x = some (.bool true) := c0
          clear hfk c0 hltI
          have hltI : (0 : Int) < n := by omega
          have HR := Lib.hid (rows_app (k := 0) HFK.out (fun h => absurd h.1 (Nat.lt_irrefl _)))
          have hq := rows_len f 0
          rw [← castS_length] at hq
          generalize castS (rows f 0) = R at *
          obtain ⟨q, hQ⟩ : ∃ q, R.length = q := ⟨_, rfl⟩
          have HC' : Hid (Crew (fun _ => False) w [rowT 0 38 2 (.slice av q cv) q (flatI R)] wr) := by rw [← hQ]; exact HC.out
          rw [hQ] at hq ⊢
          have HQ := Lib.hid hQ
          clear hQ hC HC
          have HE := Lib.hid (HC'.out.below ((Below.refl _ wr).alloc (Nat.le_refl _) (.cells #[.int .i64 (0), .int .i64 1] 38)))
          go_wp2_with (at_builtin; refine wpList_append_crew HE.out 0 rfl rfl (.tmp 39) (.tmp 42) 23 rfl (.agg #[.int .i64 0, .int .i64 0]) 16 Tryz.underlying23 infoP rfl (by decide) rfl ⟨wr.heap.size, 0, none⟩ 1 1 [.int .i64 (0), .int .i64 1] rfl rfl ?c1 ?c2 ?b1 ?b2 ?next)
          case c1 =>
            intro j u hu
            rw [add_own, World.cell?_alloc_new]
            simpa using hu
          case c2 => intro u hu; simp at hu; rcases hu with rfl | rfl <;> rfl
          case b1 => unfold maxLen; omega
          case b2 => omega
          case next =>
            intro v' w2 hF
            have HF2 : Hid (Crew (fun _ => False) w [spT v' (castS (rows f (0 + 1)))] w2) := by
              rw [HR.out]
              show Crew _ w [rowT 0 38 2 _ (R ++ [_]).length (flatI (R ++ [_]))] w2
              rw [flatI_append, List.length_append, HQ.out]
              exact hF
            clear hF
            go_wp2
            exact ⟨⟨0 + 1, by go_num, by omega, HF2.out⟩, by simp [intOf]; omega⟩
        · obtain ⟨x', ex, c1⟩ := HB.out wr hC.bel (k - 1) (by rw [HN.out]; omega)
          cases ex
          have e0 : B.getD (k - 1) false = f (k - 1) := by rw [← HF.out]
          rw [e0] at c1
          have hkI : (0 : Int) < k := by omega
          have hk1 : (0 : Int) ≤ (k : Int) - 1 := by omega
          have hk2 : (k : Int) - 1 < n := by omega
          have HK0 := Lib.hid hk0
          cases hfm : f (k - 1) with
          | false =>
            rw [hfm] at c1
            have HFM := Lib.hid hfm
            clear hfm e0 hfk hk0
            have HR := Lib.hid (rows_app (k := k) HFK.out (fun h => by rw [HFM.out] at h; cases h.2))
            have hq := rows_len f k
            rw [← castS_length] at hq
            generalize castS (rows f k) = R at *
            obtain ⟨q, hQ⟩ : ∃ q, R.length = q := ⟨_, rfl⟩
            have HC' : Hid (Crew (fun _ => False) w [rowT 0 38 2 (.slice av q cv) q (flatI R)] wr) := by rw [← hQ]; exact HC.out
            rw [hQ] at hq ⊢
            have HQ := Lib.hid hQ
            clear hQ hC HC
            have HE := Lib.hid (HC'.out.below ((Below.refl _ wr).alloc (Nat.le_refl _) (.cells #[.int .i64 ((k : Int)), .int .i64 1] 38)))
            go_wp2_with (at_builtin; refine wpList_append_crew HE.out 0 rfl rfl (.tmp 39) (.tmp 42) 23 rfl (.agg #[.int .i64 0, .int .i64 0]) 16 Tryz.underlying23 infoP rfl (by decide) rfl ⟨wr.heap.size, 0, none⟩ 1 1 [.int .i64 ((k : Int)), .int .i64 1] rfl rfl ?c1 ?c2 ?b1 ?b2 ?next)
            case c1 =>
              intro j u hu
              rw [add_own, World.cell?_alloc_new]
              simpa using hu
            case c2 => intro u hu; simp at hu; rcases hu with rfl | rfl <;> rfl
            case b1 => unfold maxLen; omega
            case b2 => omega
            case next =>
              intro v' w2 hF
              have HF2 : Hid (Crew (fun _ => False) w [spT v' (castS (rows f (k + 1)))] w2) := by
                rw [HR.out]
                show Crew _ w [rowT 0 38 2 _ (R ++ [_]).length (flatI (R ++ [_]))] w2
                rw [flatI_append, List.length_append, HQ.out]
                exact hF
              clear hF
              go_wp2
              exact ⟨⟨k + 1, by go_num, by omega, HF2.out⟩, by simp [intOf]; omega⟩
          | true =>
            rw [hfm] at c1
            obtain ⟨l, s, z, er, _, _⟩ := (rows_ok f k).last hk0 hfm
            have HR : Hid (castS (rows f (k + 1)) = castS l ++ [((s : Int), (z : Int) + 1)]) := by
              rw [rows, HFK.out, if_pos rfl, if_pos ⟨hk0, hfm⟩, er, bump_snoc, castS_append]
              exact rfl
            have er2 : castS (rows f k) = castS l ++ [((s : Int), (z : Int))] := by rw [er, castS_append]; rfl
            have hq := rows_len f k
            rw [← castS_length, er2] at hq
            rw [er2] at HC ⊢
            have hz : (z : Int) ≤ 8192 := by omega
            generalize castS l = R at *
            obtain ⟨q, hQ⟩ : ∃ q, R.length = q := ⟨_, rfl⟩
            have hlen : (R ++ [((s : Int), (z : Int))]).length = q + 1 := by simp [hQ]
            have HC' : Hid (Crew (fun _ => False) w [rowT 0 38 2 (.slice av (q + 1) cv) (q + 1) (flatI (R ++ [((s : Int), (z : Int))]))] wr) := by rw [← hlen]; exact HC.out
            rw [hlen] at hq ⊢
            obtain ⟨g, cv', e⟩ := HC'.out.held 0 rfl (Nat.succ_pos _)
            simp only [Value.slice.injEq, true_and] at e
            obtain ⟨rfl, rfl⟩ := e
            have hat := (flatI_at (R ++ [((s : Int), (z : Int))]) q (by omega)).2
            have hgq : (R ++ [((s : Int), (z : Int))]).getD q (0, 0) = ((s : Int), (z : Int)) := by simp [List.getD_eq_getElem?_getD, ← hQ]
            rw [hgq] at hat
            obtain ⟨d0, d1⟩ := HC'.out.cell 0 rfl hat
            have hset := HC'.out.put 0 rfl (q * 2 + 1) (.int .i64 ((z : Int) + 1))
            rw [flatI_set1 _ q (by omega), hgq] at hset
            have HF2 : Hid (Crew (fun _ => False) w [spT (.slice (some ⟨g, 0, none⟩) (q + 1) cv) (castS (rows f (k + 1)))] (wr.setCell ⟨g, q * 2 + 1, none⟩ (.int .i64 ((z : Int) + 1)))) := by
              have e : (R ++ [((s : Int), (z : Int))]).set q ((s : Int), (z : Int) + 1) = R ++ [((s : Int), (z : Int) + 1)] := by rw [← hQ]; simp
              rw [e] at hset
              rw [HR.out]
              show Crew _ w [rowT 0 38 2 _ (R ++ [_]).length _] _
              rw [show (R ++ [((s : Int), (z : Int) + 1)]).length = q + 1 by simp [hQ]]
              exact hset
            clear er er2 hfm hC HC HC' hset hat hgq hlen hQ e0 hfk hk0
            go_wp2
            exact ⟨⟨k + 1, by go_num, by omega, HF2.out⟩, by simp [intOf]; omega⟩
    · have hltI : ¬ (k : Int) < n := by omega
      obtain rfl : k = n := by omega
      clear hC
      go_wp2
      go_ret
      exact ⟨_, rfl, HC.out.fresh⟩

end Go.Proofs.YteellffkjjllgaaGreat
