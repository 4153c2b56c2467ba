/-
  What the program's Take answers: the deferred function, and the ways there. Conditions: as each theorem states them.
-/
import Derived.Test.YtnknojkihjpjkaaHdReadB
import Derived.Defers
import Derived.RegionTactic
import Derived.BigRegion
namespace Go.Proofs.Ytnknojkihjpjkaa
open Go.RowKit Go.Rc5 Go.Rc6

theorem results_row_cell {P : Program} {fn : Func} {p q : Tmp} {ty tq : TypeId} (h : fn.results = #[.cell p ty, .cell q tq]) (tmps : Array Value) (w : World) (g : Nat) (t : TypeId) (cs : Array Value) (fr : Nat × Nat) (d : TypeDesc)
    (hp : tmps.getD p undef = .pointer (some ⟨g, 0, none⟩)) (hg : w.heap[g]? = some (.cells cs t fr))
    (hu : P.underlying ty = some d) (hd : (match d with | .struct _ | .array _ _ => true | _ => false) = true) (hi : (P.info? ty).map (·.size) = some cs.size)
    (ad' : Addr) (v' : Value) (hq : tmps.getD q undef = .pointer (some ad')) (ha' : ∀ w, (isAgg tq).run P w = .ok false w) (hc' : w.cell? ad' = some v') :
    (results fn tmps).run P w = .ok (.tuple #[.agg cs, v']) w := by
  have hp' : tmps[p]?.getD undef = .pointer (some ⟨g, 0, none⟩) := by simpa using hp
  have hq' : tmps[q]?.getD undef = .pointer (some ad') := by simpa using hq
  have h1 := run_loadVar_row w g t ty cs fr d hg hu hd hi
  have h2 : (loadVar tq ad').run P w = .ok v' w := by simp [loadVar, Sem.run_bind, ha', hc', Result.andThen]
  simp [results, h, hp', hq', asAddr, Sem.run_bind, h1, h2, Result.andThen]

theorem results_row_tmps {P : Program} {fn : Func} {p q r : Tmp} {ty : TypeId} (h : fn.results = #[.cell p ty, .tmp q, .tmp r]) (tmps : Array Value) (w : World) (g : Nat) (t : TypeId) (cs : Array Value) (fr : Nat × Nat) (d : TypeDesc)
    (hp : tmps.getD p undef = .pointer (some ⟨g, 0, none⟩)) (hg : w.heap[g]? = some (.cells cs t fr))
    (hu : P.underlying ty = some d) (hd : (match d with | .struct _ | .array _ _ => true | _ => false) = true) (hi : (P.info? ty).map (·.size) = some cs.size) :
    (results fn tmps).run P w = .ok (.tuple #[.agg cs, tmps.getD q undef, tmps.getD r undef]) w := by
  have hp' : tmps[p]?.getD undef = .pointer (some ⟨g, 0, none⟩) := by simpa using hp
  have h1 := run_loadVar_row w g t ty cs fr d hg hu hd hi
  simp [results, h, hp', asAddr, h1, Result.andThen]

/-- A struct of four cells, stored as a whole. -/
theorem Crew.set4 {U : Nat → Prop} {w0 w : World} {l : List (Thing 0)} {b T : Nat} {p q r s : Value} (h : Crew U w0 l w) (i : Nat) (hi : l[i]? = some (blkT b #[p, q, r, s] T)) (p' q' r' s' : Value) :
    Crew U w0 (l.set i (blkT b #[p', q', r', s'] T)) ((((w.setCell ⟨b, 0, none⟩ p').setCell ⟨b, 1, none⟩ q').setCell ⟨b, 2, none⟩ r').setCell ⟨b, 3, none⟩ s') := by
  have hlt : i < l.length := (List.getElem?_eq_some_iff.1 hi).1
  have h1 := h.set i hi 0 p'
  have h2 := h1.set i (by rw [List.getElem?_set_self hlt]) 1 q'
  rw [List.set_set] at h2
  have h3 := h2.set i (by rw [List.getElem?_set_self hlt]) 2 r'
  rw [List.set_set] at h3
  have h4 := h3.set i (by rw [List.getElem?_set_self hlt]) 3 s'
  rw [List.set_set] at h4
  exact h4

/-- The deferred function, where Put tells the very text. -/
theorem late_same {U : Nat → Prop} {w0 w : World} {l : List (Thing 0)} {hb sb eb : Nat} {g s z v : Value} {S : ByteArray} {x : Int} {u : FrameMode} (hC : Crew U w0 l w) (i j : Nat) (hi : l[i]? = some (blkT hb #[g, s, z, v] 25)) (hj : l[j]? = some (blkT sb #[.string S] 9))
    (hput : Calls Try.prog 10 #[.agg #[g, s, z, v]] w fun e w' => e = .returned (.tuple #[.string S, .int .i64 x]) ∧ Below w.heap.size w w') :
    CallsD Try.prog 38 #[.pointer (some ⟨hb, 0, none⟩), .pointer (some ⟨sb, 0, none⟩), .pointer (some ⟨eb, 0, none⟩)] u w fun e u' w' => u' = u ∧ (e = .returned (.tuple #[]) ∧ Below w.heap.size w w') := by
  have c0 := (hC.at i hi (j := 0) rfl).1
  have c1 := (hC.at i hi (j := 1) rfl).1
  have c2 := (hC.at i hi (j := 2) rfl).1
  have c3 := (hC.at i hi (j := 3) rfl).1
  have HS := Lib.hid (fun w' (hb : Below w.heap.size w w') => ((hC.below hb).at j hj (j := 0) rfl).1)
  have HP := Lib.hid hput
  clear hC hput
  go_enter_d Try.func38, Try.ntmps38
  go_wp2_with (go_at_call 10; refine HP.out.mono ?_; rintro e w1 ⟨rfl, hb1⟩; have d0 := HS.out _ hb1)
  go_end0
  exact ⟨rfl, hb1⟩

/-- The deferred function, where Put tells another text: what was read is no head. -/
theorem late_other {U : Nat → Prop} {w0 w : World} {l : List (Thing 0)} {hb sb eb : Nat} {g s z E : Value} {v : Value} {S P : ByteArray} {x : Int} {u : FrameMode} (hC : Crew U w0 l w) (i j k : Nat) (hi : l[i]? = some (blkT hb #[g, s, z, v] 25)) (hj : l[j]? = some (blkT sb #[.string S] 9)) (hk : l[k]? = some (blkT eb #[E] 27)) (hik : k ≠ i)
    (hne : P ≠ S)
    (hput : Calls Try.prog 10 #[.agg #[g, s, z, v]] w fun e w' => e = .returned (.tuple #[.string P, .int .i64 x]) ∧ Below w.heap.size w w') :
    CallsD Try.prog 38 #[.pointer (some ⟨hb, 0, none⟩), .pointer (some ⟨sb, 0, none⟩), .pointer (some ⟨eb, 0, none⟩)] u w fun e u' w' => u' = u ∧ (e = .returned (.tuple #[]) ∧
      Crew U w0 ((l.set i (blkT hb #[.int .u64 0, .int .i64 0, .int .i64 0, .slice none 0 0] 25)).set k (blkT eb #[.int .i64 2] 27)) w') := by
  have c0 := (hC.at i hi (j := 0) rfl).1
  have c1 := (hC.at i hi (j := 1) rfl).1
  have c2 := (hC.at i hi (j := 2) rfl).1
  have c3 := (hC.at i hi (j := 3) rfl).1
  have HC := Lib.hid hC
  have HP := Lib.hid hput
  have ht := beq_list hne
  clear hC hput
  go_enter_d Try.func38, Try.ntmps38
  go_wp2_with fail
  refine HP.out.mono ?_
  rintro e w1 ⟨rfl, hb1⟩
  have hC := HC.out.below hb1
  have d0 := (hC.at j hj (j := 0) rfl).1
  have c0' := (hC.at i hi (j := 0) rfl).1
  have c1' := (hC.at i hi (j := 1) rfl).1
  have c2' := (hC.at i hi (j := 2) rfl).1
  have c3' := (hC.at i hi (j := 3) rfl).1
  have f0 := (hC.at i hi (j := 0) rfl).2
  have f1 := (hC.at i hi (j := 1) rfl).2
  have f2 := (hC.at i hi (j := 2) rfl).2
  have f3 := (hC.at i hi (j := 3) rfl).2
  have g0 := (hC.at k hk (j := 0) rfl).1
  have g1 := (hC.at k hk (j := 0) rfl).2
  have hne2 : eb ≠ hb := by
    intro e
    subst e
    obtain ⟨O, ⟨h1, _⟩, _⟩ := hC.one hi
    obtain ⟨O2, ⟨h2, _⟩, _⟩ := hC.one hk
    rw [h1] at h2
    cases h2
  have HC1 := Lib.hid hC
  clear hC c0 c1 c2 c3 HC
  have hk2 : (l.set i (blkT hb #[.int .u64 0, .int .i64 0, .int .i64 0, .slice none 0 0] 25))[k]? = some (blkT eb #[E] 27) := by
    rw [List.getElem?_set_ne (fun e => hik e.symm)]
    exact hk
  have HF := Lib.hid ((HC1.out.set4 i hi (.int .u64 0) (.int .i64 0) (.int .i64 0) (.slice none 0 0)).set k hk2 0 (.int .i64 2))
  clear HC1 hk2
  go_wp2
  go_end0
  exact ⟨rfl, HF.out⟩

end Go.Proofs.Ytnknojkihjpjkaa
