/-
  'append' of spans inside a region that draws; parts of a row that came in. Conditions: as each theorem states them.
-/
import Derived.Test.YtcknpmlekpgafaaSpApp
import Derived.Test.YtcknpmlekpgafaaSpOrdM
import Derived.Deep.RegionLaw
namespace Go.Proofs.Ytcknpmlekpgafaa
open Go.RowKit Go.Rc5

theorem run_append_spans {U : Nat → Prop} {w0 w : World} {l : List (Thing 0)} {M L : List SpI} (h : Crew U w0 l w) (i : Nat) {v : Value} (hi : l[i]? = some (spT v M)) (ty : TypeId) (ao : Option Addr) (m c : Nat) (hsp : SpansAt w ao L) (hl : L.length = m) (hnone : ao = none → c = 0) (hb : M.length + m ≤ 1000000) :
    ∃ v' w', (Builtin.append_ #[22, 22] ty #[v, .slice ao m c]).run Try.prog w = .ok v' w' ∧ Crew U w0 (l.set i (spT v' (M ++ L))) w' := by
  cases ao with
  | none =>
    have hL : L = [] := by
      cases L with
      | nil => rfl
      | cons y r => obtain ⟨z, hz, _⟩ := hsp 0 (by simp); cases hz
    subst hL
    obtain rfl : m = 0 := by simpa using hl.symm
    obtain rfl := hnone rfl
    obtain ⟨i0, hi0, _⟩ := info_parts infoP
    refine ⟨v, w, run_append_owned_none (P := Try.prog) (w := w) 0 22 ty 34 i0 2 Try.underlying22 hi0 v M.length (flatI M) (h.own i hi), ?_⟩
    rw [List.append_nil]
    have e : l.set i (spT v M) = l := by
      apply List.ext_getElem?
      intro j
      rw [List.getElem?_set]
      by_cases e : i = j
      · subst e
        rw [if_pos rfl, if_pos (List.getElem?_eq_some_iff.1 hi).1, hi]
      · rw [if_neg e]
    rw [e]
    exact h
  | some ad =>
    obtain ⟨v', w', hr, hc⟩ := run_append_crew (P := Try.prog) h i hi 22 ty (.agg #[.int .i64 0, .int .i64 0]) 16 Try.underlying22 infoP rfl (by decide) ad m c (flatI L) (by rw [flatI_length, hl]) (spans_news hsp) (flatI_one L) (by unfold maxLen; omega) (by omega)
    refine ⟨v', w', hr, ?_⟩
    rw [← flatI_append] at hc
    show Crew U w0 (l.set i (rowT 0 34 2 v' (M ++ L).length (flatI (M ++ L)))) w'
    rw [List.length_append, hl]
    exact hc

theorem step_append_spans {U : Nat → Prop} {w0 w : World} {l : List (Thing 0)} {ops : Array Oper} {o : Oper} {a : Act} {K : Act → World → Prop} {Q : Exit → Act → World → Prop} {E : Prop} {M L : List SpI} (h : Crew U w0 l w) (i : Nat) {v : Value} (hi : l[i]? = some (spT v M)) (hgd : o.guard = none) (s x : Operand)
    (ho : o.op = .call { callee := .builtin .append, args := #[s, x], argTypes := #[22, 22] }) (hs : a.eval s = v) (ao : Option Addr) (m c : Nat) (hx : a.eval x = .slice ao m c) (hsp : SpansAt w ao L) (hl : L.length = m) (hnone : ao = none → c = 0) (hb : M.length + m ≤ 1000000)
    (hK : ∀ v' w', Crew U w0 (l.set i (spT v' (M ++ L))) w' → K (a.put o.dst v') w') : if Region.wanted o (yielded ops a.tmps) = true then Oper.wp Try.prog o a w K Q else E := by
  obtain ⟨v', w', hr, h2⟩ := run_append_spans h i hi o.type ao m c hsp hl hnone hb
  rw [if_pos (by simp [Region.wanted, hgd])]
  unfold Oper.wp
  simp [execOp, ho, resolve, invoke, builtin, hs, hx, hr, Result.andThen]
  exact hK v' w' h2

theorem spans_take {w : World} {a : Option Addr} {L : List SpI} (h : SpansAt w a L) (k : Nat) : SpansAt w a (L.take k) := by
  intro i hi
  have hi' : i < L.length := by
    rw [List.length_take] at hi
    omega
  obtain ⟨x, hx, c0, c1⟩ := h i hi'
  have e : (L.take k).getD i (0, 0) = L.getD i (0, 0) := by
    rw [List.length_take] at hi
    simp only [List.getD_eq_getElem?_getD, List.getElem?_take]
    rw [if_pos (by omega)]
  rw [e]
  exact ⟨x, hx, c0, c1⟩

theorem spans_drop {w : World} {x : Addr} {L : List SpI} (h : SpansAt w (some x) L) (k : Nat) : SpansAt w (some (x.add (k * 2))) (L.drop k) := by
  intro i hi
  have hi' : k + i < L.length := by
    rw [List.length_drop] at hi
    omega
  obtain ⟨y, hy, c0, c1⟩ := h (k + i) hi'
  cases hy
  have e : (L.drop k).getD i (0, 0) = L.getD (k + i) (0, 0) := by simp only [List.getD_eq_getElem?_getD, List.getElem?_drop]
  rw [e]
  refine ⟨_, rfl, ?_, ?_⟩
  · rw [Go.Deep.add_add, ← Nat.add_mul]
    exact c0
  · rw [Go.Deep.add_add, ← Nat.add_mul]
    exact c1

end Go.Proofs.Ytcknpmlekpgafaa
