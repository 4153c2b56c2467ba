/-
  'append' of a row of spans, wherever it lies, to one of the call's own; and what is taken in two goes. Conditions: as each theorem states them.
-/
import Derived.Test.YtcknpmlekpgafaaSpLaw
import Derived.Laws.OwnMore
namespace Go.Rc5

theorem takeL_add (K : List Sp) (a b : Nat) : (takeL (takeL K a).2 b).2 = (takeL K (a + b)).2 ∧ ∀ x, memB ((takeL K a).1 ++ (takeL (takeL K a).2 b).1) x = memB (takeL K (a + b)).1 x := by
  induction K generalizing a with
  | nil => exact ⟨rfl, fun x => rfl⟩
  | cons s r ih =>
    by_cases h0 : a = 0
    · subst h0
      have e : takeL (s :: r) 0 = ([], s :: r) := by rw [takeL, if_pos rfl]
      rw [e, Nat.zero_add]
      exact ⟨rfl, fun x => rfl⟩
    · by_cases h1 : s.2 ≤ a
      · obtain ⟨i1, i2⟩ := ih (a - s.2)
        have e : takeL (s :: r) a = (s :: (takeL r (a - s.2)).1, (takeL r (a - s.2)).2) := by rw [takeL, if_neg h0, if_pos h1]
        have e2 : takeL (s :: r) (a + b) = (s :: (takeL r (a - s.2 + b)).1, (takeL r (a - s.2 + b)).2) := by
          rw [takeL, if_neg (by omega), if_pos (by omega), show a + b - s.2 = a - s.2 + b by omega]
        rw [e, e2]
        refine ⟨i1, fun x => ?_⟩
        show memB (s :: ((takeL r (a - s.2)).1 ++ _)) x = memB (s :: _) x
        rw [memB_cons, memB_cons, i2]
      · have e : takeL (s :: r) a = ([(s.1, a)], (s.1 + a, s.2 - a) :: r) := by rw [takeL, if_neg h0, if_neg h1]
        rw [e]
        dsimp only
        by_cases hb : b = 0
        · subst hb
          have e2 : takeL ((s.1 + a, s.2 - a) :: r) 0 = ([], (s.1 + a, s.2 - a) :: r) := by rw [takeL, if_pos rfl]
          rw [e2, Nat.add_zero, e]
          exact ⟨rfl, fun x => rfl⟩
        · by_cases h2 : s.2 - a ≤ b
          · have e2 : takeL ((s.1 + a, s.2 - a) :: r) b = ((s.1 + a, s.2 - a) :: (takeL r (b - (s.2 - a))).1, (takeL r (b - (s.2 - a))).2) := by rw [takeL, if_neg hb, if_pos h2]
            have e3 : takeL (s :: r) (a + b) = (s :: (takeL r (b - (s.2 - a))).1, (takeL r (b - (s.2 - a))).2) := by
              rw [takeL, if_neg (by omega), if_pos (by omega), show a + b - s.2 = b - (s.2 - a) by omega]
            rw [e2, e3]
            refine ⟨rfl, fun x => ?_⟩
            show memB ((s.1, a) :: (s.1 + a, s.2 - a) :: _) x = memB (s :: _) x
            rw [memB_cons, memB_cons, memB_cons, ← Bool.or_assoc]
            congr 1
            rw [Bool.eq_iff_iff, Bool.or_eq_true, inB_iff, inB_iff, inB_iff]
            dsimp only
            omega
          · have e2 : takeL ((s.1 + a, s.2 - a) :: r) b = ([(s.1 + a, b)], (s.1 + a + b, s.2 - a - b) :: r) := by rw [takeL, if_neg hb, if_neg h2]
            have e3 : takeL (s :: r) (a + b) = ([(s.1, a + b)], (s.1 + (a + b), s.2 - (a + b)) :: r) := by rw [takeL, if_neg (by omega), if_neg (by omega)]
            rw [e2, e3]
            refine ⟨?_, fun x => ?_⟩
            · show (s.1 + a + b, s.2 - a - b) :: r = (s.1 + (a + b), s.2 - (a + b)) :: r
              rw [Nat.add_assoc, Nat.sub_sub]
            · show memB ((s.1, a) :: [(s.1 + a, b)]) x = memB [(s.1, a + b)] x
              rw [memB_cons, memB_cons, memB_cons, memB_nil, Bool.or_false, Bool.or_false, Bool.eq_iff_iff, Bool.or_eq_true, inB_iff, inB_iff, inB_iff]
              dsimp only
              omega

theorem apart_append {l l' : List Sp} (h : l.Pairwise Apart) (h' : l'.Pairwise Apart) (hd : ∀ x, memB l x = true → memB l' x = false) : (l ++ l').Pairwise Apart := by
  rw [List.pairwise_append]
  refine ⟨h, h', fun s hs t ht x hx => ?_⟩
  have h1 := hd x (by rw [memB, List.any_eq_true]; exact ⟨s, hs, hx⟩)
  rw [Bool.eq_false_iff]
  intro e
  rw [Bool.eq_false_iff] at h1
  exact h1 (by rw [memB, List.any_eq_true]; exact ⟨t, ht, e⟩)

theorem ch_fit {lo n : Nat} {l : List Sp} (h : Ch lo l) (hm : ∀ x, memB l x = true → x < n) : ∀ s ∈ l, s.1 + s.2 ≤ n := fun s hs => by
  have h1 := h.some s hs
  have h2 := hm (s.1 + s.2 - 1) (by rw [memB_iff]; exact ⟨s, hs, by omega, by omega⟩)
  omega

theorem takeL_len (l : List Sp) (n : Nat) : (takeL l n).1.length ≤ l.length ∧ (takeL l n).2.length ≤ l.length := by
  induction l generalizing n with
  | nil => exact ⟨Nat.le_refl _, Nat.le_refl _⟩
  | cons s r ih =>
    unfold takeL
    split
    · exact ⟨Nat.zero_le _, Nat.le_refl _⟩
    · split
      · have := ih (n - s.2)
        refine ⟨?_, ?_⟩
        · show (_ :: _).length ≤ (_ :: _).length
          simp only [List.length_cons]
          omega
        · show (takeL r (n - s.2)).2.length ≤ (_ :: _).length
          simp only [List.length_cons]
          omega
      · exact ⟨by simp, by simp⟩

end Go.Rc5
namespace Go.Proofs.Ytcknpmlekpgafaa
open Go.RowKit Go.Rc5

theorem spans_news {w : World} {ad : Addr} {L : List SpI} (h : SpansAt w (some ad) L) : ∀ j u, (flatI L)[j]? = some u → w.cell? (ad.add j) = some u := by
  intro j u hu
  have hj : j < L.length * 2 := by
    have := (List.getElem?_eq_some_iff.1 hu).1
    rw [flatI_length] at this
    exact this
  obtain ⟨i, hi⟩ : ∃ i, j = i * 2 ∨ j = i * 2 + 1 := ⟨j / 2, by omega⟩
  have hil : i < L.length := by omega
  obtain ⟨x, ex, c0, c1⟩ := h i hil
  cases ex
  obtain ⟨f0, f1⟩ := flatI_at L i hil
  rcases hi with rfl | rfl
  · rw [hu] at f0
    rw [c0, f0]
  · rw [hu] at f1
    rw [show i * 2 + 1 = i * 2 + (0 + 1) from rfl, add_spelt, c1, f1]

/-- 'append' of spans that lie anywhere to a row of the call's own. -/
theorem wpList_append_spans {U : Nat → Prop} {w0 w : World} {l : List (Thing 0)} {ops : Array Oper} {rest : List Oper} {o : Oper} {a : Act} {Q : Exit → Act → World → Prop} {M L : List SpI} (h : Crew U w0 l w) (i : Nat) {v : Value} (hi : l[i]? = some (spT v M)) (hgd : o.guard = none) (s x : Operand)
    (ho : o.op = .call { callee := .builtin .append, args := #[s, x], argTypes := #[22, 22] }) (hs : a.eval s = v) (ao : Option Addr) (m c : Nat) (hx : a.eval x = .slice ao m c) (hsp : SpansAt w ao L) (hl : L.length = m) (hnone : ao = none → c = 0) (hb : M.length + m ≤ 1000000)
    (hK : ∀ v' w', Crew U w0 (l.set i (spT v' (M ++ L))) w' → wpList Try.prog ops Q rest (a.put o.dst v') w') : wpList Try.prog ops Q (o :: rest) a w := by
  cases ao with
  | none =>
    have hL : L = [] := by
      cases L with
      | nil => rfl
      | cons y r => obtain ⟨z, hz, _⟩ := hsp 0 (by simp); cases hz
    subst hL
    obtain rfl : m = 0 := by simpa using hl.symm
    obtain rfl := hnone rfl
    obtain ⟨i0, hi0, _⟩ := info_parts infoP
    have hr := run_append_owned_none (P := Try.prog) (w := w) 0 22 o.type 34 i0 2 Try.underlying22 hi0 v M.length (flatI M) (h.own i hi)
    refine wpList_plain hgd fun K hK' => ?_
    unfold Oper.wp execOp
    simp only [ho, resolve, invoke, builtin, Sem.run_bind, Sem.run_pure, Result.andThen_ok, List.map_toArray, List.map_cons, List.map_nil, hs, hx, hr]
    refine hK' _ _ (hK v w ?_)
    rw [List.append_nil]
    have e : l.set i (spT v M) = l := by
      apply List.ext_getElem?
      intro j
      rw [List.getElem?_set]
      by_cases e : i = j
      · subst e
        rw [if_pos rfl, if_pos (List.getElem?_eq_some_iff.1 hi).1, hi]
      · rw [if_neg e]
    rw [e]
    exact h
  | some ad =>
    refine wpList_append_crew h i hi hgd s x 22 ho (.agg #[.int .i64 0, .int .i64 0]) 16 Try.underlying22 infoP rfl (by decide) hs ad m c (flatI L) hx (by rw [flatI_length, hl]) (spans_news hsp) (flatI_one L) (by unfold maxLen; omega) (by omega) ?_
    intro v' w' hc
    refine hK v' w' ?_
    rw [← flatI_append] at hc
    show Crew U w0 (l.set i (rowT 0 34 2 v' (M ++ L).length (flatI (M ++ L)))) w'
    rw [List.length_append, hl]
    exact hc

theorem own_none {w : World} {base e z n c : Nat} {xs : List Value} {a : Option Addr} (h : w.ownsRow base e z (.slice a n c) n xs) : a = none → c = 0 := by
  rintro rfl
  rcases h.2 with ⟨e, _⟩ | ⟨g, cap, cur, e, _⟩
  · cases e
    rfl
  · cases e

end Go.Proofs.Ytcknpmlekpgafaa
