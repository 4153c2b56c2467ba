/-
  The reference of layer 5: what Norm, Rest, Total and Has answer. Conditions: as each theorem states them.
  The iterators of the program over a row of spans: slices.Values and full: what they give, one behind the other. Conditions: as each theorem states them.
  The iterators full and gaps of the program, and slices.Collect, over a row of spans: what they give, and the row that is made of it. Conditions: as each theorem states them.
  Whether two rows of spans are the same, as the statements ask it; and the reference's Right, Total, Has. Conditions: as each theorem states them.
  The reference of layer 5: what Right and Take answer. Conditions: as each theorem states them.
  What the program's Total and Has answer. Conditions: as each theorem states them.
  What the program's sized, within and Right answer. Conditions: as each theorem states them.
-/
import Derived.Test.YteellffkjjllgaaK3
import Derived.Test.YteellffkjjllgaaK4
import Derived.Shelf.Abstract
import Derived.Shelf.RegionOpen
import Derived.OwnWalkIn
import Derived.TacticsInMore
import Derived.LoopNIn
import Derived.LoopIn
import Derived.Laws.OwnMore
import Derived.Maps.AppendAt
namespace Go.Proofs.Yteellffkjjllgaa
open Go.RowKit Go.Rc5

/-- What Norm (or Rest, with other marks f) answers of a row of which each span is inside. -/
def RowAt (N : List Sp) (f : Nat → Bool) (n : Nat) (w : World) (e : Ending) (w' : World) : Prop :=
  (e = .returned (.tuple #[.slice none 0 0, .int .i64 5]) ∧ ¬ N.Pairwise Apart ∧ Below w.heap.size w w') ∨
  ∃ v, e = .returned (.tuple #[v, .int .i64 0]) ∧ N.Pairwise Apart ∧ Fresh (spT v (castS (rows f n))) w w'

theorem bl_fun (f : Nat → Bool) (n : Nat) : rows (fun x => (bl f n).getD x false) n = rows f n := rows_congr fun x hx => bl_get f n x hx

theorem Fresh.held {v : Value} {B : List Bool} {n : Nat} {w w' : World} (h : Fresh (blT v B n) w w') : ∃ a c, v = .slice a n c ∧ BoolsAt w' a B ∧ B.length = n := by
  obtain ⟨O, ⟨ho, _⟩, _⟩ := h
  obtain ⟨a, c, rfl⟩ := own_slice ho
  obtain ⟨h1, h2⟩ := bools_own ho
  exact ⟨a, c, rfl, h2, h1⟩

theorem Fresh.bel {t : Thing 0} {w w' : World} (h : Fresh t w w') : Below w.heap.size w w' := by
  obtain ⟨_, _, hb, _⟩ := h
  exact hb

/-- What is made behind what was made. -/
theorem Fresh.behind {t : Thing 0} {w w1 w' : World} (hb : Below w.heap.size w w1) (h : Fresh t w1 w') : Fresh t w w' := by
  obtain ⟨O, h1, h2, h3⟩ := h
  exact ⟨O, h1, hb.trans (h2.mono hb.size), fun k hk => Nat.le_trans hb.size (h3 k hk)⟩

set_option maxHeartbeats 2000000 in
theorem rnorm_bad (L : List SpI) (a : Option Addr) (c len : Nat) (size : Int) (w : World) (h : SpansAt w a L) (hl : L.length = len) (hlen : len ≤ 100000) (hb : Bad L size) :
    Calls Try.prog 79 #[.slice a len c, .int .i64 size] w fun e w' => e = .returned (.tuple #[.slice none 0 0, .int .i64 11]) ∧ Below w.heap.size w w' := by
  have HM := Lib.hid (rmarks_bad L a c len size w h hl hlen hb)
  clear h hb hl
  go_enter Try.func79, Try.ntmps79
  go_wp2_with fail
  refine HM.out.mono ?_
  rintro e w1 ⟨rfl, hb1⟩
  go_wp2
  go_ret2
  exact ⟨rfl, hb1⟩

set_option maxHeartbeats 2000000 in
theorem rnorm_good (L : List SpI) (N : List Sp) (n : Nat) (a : Option Addr) (c len : Nat) (w : World) (h : SpansAt w a L) (hl : L.length = len) (hlen : len ≤ 100000) (hg : Fits L N n) :
    Calls Try.prog 79 #[.slice a len c, .int .i64 n] w (RowAt N (memB N) n w) := by
  have HM := Lib.hid (rmarks_good L N n a c len w h hl hlen hg)
  have hn := hg.hi
  clear h hl hg
  go_enter Try.func79, Try.ntmps79
  go_wp2_with fail
  refine HM.out.mono ?_
  rintro e w1 (⟨rfl, hp, hb1⟩ | ⟨v, rfl, hp, hf⟩)
  · have HP := Lib.hid hp
    clear hp HM
    go_wp2
    go_ret2
    exact .inl ⟨rfl, HP.out, hb1⟩
  · have HP := Lib.hid hp
    have HF := Lib.hid hf
    obtain ⟨a1, c1, rfl, hbl, hbn⟩ := hf.held
    have HR := Lib.hid (rrow_any (bl (memB N) n) a1 c1 n w1 hbl hbn hn)
    clear hp hf hbl hbn HM
    go_wp2_with fail
    refine HR.out.mono ?_
    rintro e w2 ⟨v, rfl, hf2⟩
    rw [bl_fun] at hf2
    have HF2 := Lib.hid (hf2.behind HF.out.bel)
    clear hf2
    go_wp2
    go_ret2
    exact .inr ⟨v, rfl, HP.out, HF2.out⟩

end Go.Proofs.Yteellffkjjllgaa

namespace Go.Proofs.Yteellffkjjllgaa
open Go.RowKit Go.Rc5 Go.Shelf

attribute [local go_sem] Oper.semAt_some

/-- A span as yield's argument. -/
def encS (s : SpI) : Array Value := #[.agg #[.int .i64 s.1, .int .i64 s.2]]

theorem Crew.turns {U : Nat → Prop} {w0 w : World} {t : Thing 0} (h : Crew U w0 [t] w) : Turns t U w0 w := by
  obtain ⟨O, ho, _, _, hU⟩ := h.one (i := 0) rfl
  exact ⟨O, ho, h.mv, hU⟩

theorem add_block (x : Addr) (n : Nat) : (x.add n).block = x.block := by unfold Addr.add; split <;> rfl

theorem SpansAt.same {w w' : World} {a : Option Addr} {L : List SpI} (h : SpansAt w a L) (hb : ∀ x, a = some x → x.block < w.heap.size → w'.heap[x.block]? = w.heap[x.block]?) : SpansAt w' a L := by
  intro i hi
  obtain ⟨x, rfl, c0, c1⟩ := h i hi
  have hlt : x.block < w.heap.size := by
    have := World.block_lt_of_cell? w _ c0
    rwa [add_block] at this
  have e := hb x rfl hlt
  refine ⟨x, rfl, ?_, ?_⟩
  · rw [← c0]
    exact World.cell?_of_block (by rw [add_block]; exact e)
  · rw [← c1]
    exact World.cell?_of_block (by show w'.heap[(x.add (i * 2)).block]? = w.heap[(x.add (i * 2)).block]?; rw [add_block]; exact e)

set_option maxHeartbeats 1000000 in
theorem values_any (a : Option Addr) (len c : Nat) (w : World) :
    Calls Try.prog 94 #[.slice a len c] w fun e w' => e = .returned (.func (.func 102) #[] #[.pointer (some ⟨w.heap.size, 0, none⟩)]) ∧ w' = w.alloc (.cells #[.slice a len c] 33) := by
  go_enter Try.func94, Try.ntmps94
  go_wp2
  go_ret
  exact ⟨rfl, rfl⟩

set_option maxHeartbeats 1000000 in
theorem full_any (a : Option Addr) (len c : Nat) (w : World) :
    Calls Try.prog 96 #[.slice a len c] w fun e w' => e = .returned (.func (.func 103) #[] #[.pointer (some ⟨w.heap.size, 0, none⟩)]) ∧ w' = w.alloc (.cells #[.slice a len c] 33) := by
  go_enter Try.func96, Try.ntmps96
  go_wp2
  go_ret
  exact ⟨rfl, rfl⟩

/-- The blocks that an iterator over a row reads. -/
def rowR (n0 : Nat) (a : Option Addr) (B : Nat) (k : Nat) : Prop := k = B ∨ (k < n0 ∧ ∃ x, a = some x ∧ k = x.block)

theorem spans_reads {w W0 : World} {a : Option Addr} {L : List SpI} (h : SpansAt w a L) (hb : Below w.heap.size w W0) : ∀ W', (∀ x, a = some x → x.block < w.heap.size → W'.heap[x.block]? = W0.heap[x.block]?) → SpansAt W' a L :=
  fun _ hk => SpansAt.same h fun x hx hlt => (hk x hx hlt).trans (hb.block _ hlt)

theorem take_pre (L : List SpI) (k : Nat) (h : k < L.length) : L.take k ++ [L.getD k (0, 0)] <+: L := by
  rw [← take_snoc L k (0, 0) h]
  exact List.take_prefix _ _

set_option maxRecDepth 100000 in
set_option maxHeartbeats 4000000 in
theorem values_gives (L : List SpI) (a : Option Addr) (c len B : Nat) (W0 : World) (hB : W0.heap[B]? = some (.cells #[.slice a len c] 33 (0, 0))) (n0 : Nat) (hn0 : n0 ≤ W0.heap.size) (h : ∀ W', (∀ x, a = some x → x.block < n0 → W'.heap[x.block]? = W0.heap[x.block]?) → SpansAt W' a L) (hl : L.length = len) (hlen : len ≤ 1000000) :
    Gives Try.prog 102 #[.pointer (some ⟨B, 0, none⟩)] encS L (rowR n0 a B) W0 := by
  refine ⟨?_, ?_⟩
  · rintro k (rfl | ⟨h, _⟩)
    · exact (Array.getElem?_eq_some_iff.1 hB).1
    · exact Nat.lt_of_lt_of_le h hn0
  intro l J Jx O W hsz hR hO h0 hY
  have cB : W.cell? ⟨B, 0, none⟩ = some (.slice a len c) := by
    have := (hR B (.inl rfl)).trans hB
    exact (Lib.cell_of_heap this 0).trans rfl
  have HS : Hid (∀ W', Moved O W W' → SpansAt W' a L) := fun W' hm => h W' fun x hx hlt => by
    have hr : rowR n0 a B x.block := .inr ⟨hlt, x, hx, rfl⟩
    exact (hm.block x.block (by omega) (hO _ hr)).trans (hR _ hr)
  have HY := Lib.hid hY
  have HL := Lib.hid hl
  have H0 := Lib.hid (Crew.only h0)
  clear h hB hR hO hY h0 hl
  refine (callsIn_wide (n := 3)).1 (callsIn_of_wp Try.func102 rfl trivial ?_ rfl)
  simp only [Try.ntmps102, List.size_toArray, List.length_cons, List.length_nil, Nat.reduceAdd, Nat.reduceSub, Array.replicate_succ, Array.replicate_zero, List.push_toArray, List.append_toArray, List.nil_append, List.cons_append]
  gi_wp2
  gi_loopw [7] (fun i wr => ∃ k : Nat, i = .int .i64 k ∧ k ≤ len ∧ Crew O W [J (L.take k)] wr) (fun i _ => len - (intOf i).toNat)
  case atStart => exact ⟨0, rfl, Nat.zero_le _, H0.out⟩
  case round =>
    obtain ⟨k, rfl, hk, C⟩ := hrel
    have HC := Lib.hid C
    clear C
    by_cases hlt : k < len
    · have hltI : (k : Int) < len := by omega
      obtain ⟨x, rfl, c0, c1⟩ := HS.out wr HC.out.mv k (by rw [HL.out]; exact hlt)
      have HP := Lib.hid (take_pre L k (by rw [HL.out]; exact hlt))
      have HT := Lib.hid (take_snoc L k (0, 0) (by rw [HL.out]; exact hlt))
      have HC1 := Lib.hid (HC.out.block #[.int .i64 (L.getD k (0, 0)).1, .int .i64 (L.getD k (0, 0)).2] 59)
      generalize L.getD k (0, 0) = s at *
      obtain ⟨s1, s2⟩ := s
      dsimp only at c0 c1 HC1
      obtain ⟨O', ho, hset, _⟩ := HC1.out.one (i := 0) rfl
      have HSET := Lib.hid hset
      obtain ⟨fn, tmps, assign, body, hy, hR⟩ := HY.out _ _ _ _ HP.out ho
      have HRR := Lib.hid hR
      clear hR hset ho
      dsimp only [encS] at hy
      gi_wp2
      refine (show RoundIn Fence.wide _ _ _ _ _ _ _ _ _ from ⟨HRR.out.1, fun c cs _ => HRR.out.2 c cs (room_wide _)⟩).mono ?_
      rintro e W3 (⟨rfl, hT⟩ | ⟨rfl, hT⟩)
      · have C3 := Crew.first (l := [_]) (HSET.out _ _ hT)
        rw [← HT.out] at C3
        have HC3 := Lib.hid C3
        clear hT C3
        gi_wp2
        go_roundw
        case rel => exact ⟨k + 1, by simp, by omega, HC3.out⟩
        case measure => simp [intOf]; omega
      · have C3 := Crew.first (l := [_]) (HSET.out _ _ hT)
        have HC3 := Lib.hid C3
        clear hT C3
        gi_wp2
        refine bodyPost_ret (results_none rfl _ _ _) rfl ?_
        exact ⟨⟨_, rfl⟩, .inr ⟨_, HP.out, HC3.out.turns⟩⟩
    · have hltI : ¬ (k : Int) < len := by omega
      have e : L.take k = L := List.take_of_length_le (by have := HL.out; omega)
      rw [e] at HC
      gi_wp2
      go_end0
      exact ⟨⟨_, rfl⟩, .inl HC.out.turns⟩

end Go.Proofs.Yteellffkjjllgaa

namespace Go.Rc5

/-- Where the next gap begins. -/
def nxI (next : Int) : List SpI → Int
  | [] => next
  | s :: r => nxI (s.1 + s.2) r

/-- The gaps ahead of the spans. -/
def gpI (next : Int) : List SpI → List SpI
  | [] => []
  | s :: r => (if next < s.1 then [(next, s.1 - next)] else []) ++ gpI (s.1 + s.2) r

def gapsI (l : List SpI) (size : Int) : List SpI := gpI 0 l ++ (if nxI 0 l < size then [(nxI 0 l, size - nxI 0 l)] else [])

theorem nxI_snoc (next : Int) (l : List SpI) (s : SpI) : nxI next (l ++ [s]) = s.1 + s.2 := by
  induction l generalizing next with
  | nil => rfl
  | cons t r ih => exact ih _

theorem gpI_snoc (next : Int) (l : List SpI) (s : SpI) : gpI next (l ++ [s]) = gpI next l ++ (if nxI next l < s.1 then [(nxI next l, s.1 - nxI next l)] else []) := by
  induction l generalizing next with
  | nil => by_cases h : next < s.1 <;> simp [gpI, nxI, h]
  | cons t r ih =>
    rw [List.cons_append]
    unfold gpI nxI
    rw [ih, List.append_assoc]

theorem gpI_append (next : Int) (l l' : List SpI) : gpI next (l ++ l') = gpI next l ++ gpI (nxI next l) l' := by
  induction l generalizing next with
  | nil => rfl
  | cons t r ih => simp [gpI, nxI, ih]

/-- The sectors lie in a small range. -/
def Small (l : List SpI) : Prop := ∀ s ∈ l, 0 ≤ s.1 ∧ 0 ≤ s.2 ∧ s.1 + s.2 ≤ 8192

theorem nxI_small {l : List SpI} (h : Small l) : 0 ≤ nxI 0 l ∧ nxI 0 l ≤ 8192 := by
  have : ∀ (next : Int), 0 ≤ next ∧ next ≤ 8192 → 0 ≤ nxI next l ∧ nxI next l ≤ 8192 := by
    induction l with
    | nil => exact fun _ hn => hn
    | cons t r ih =>
      intro next _
      have ht := h t List.mem_cons_self
      exact ih (fun s hs => h s (List.mem_cons_of_mem _ hs)) _ ⟨by omega, by omega⟩
  exact this 0 ⟨by omega, by omega⟩

theorem gpI_pre {l : List SpI} {pre : List SpI} {s : SpI} (h : pre ++ [s] <+: l) : gpI 0 (pre ++ [s]) <+: gpI 0 l := by
  obtain ⟨r, rfl⟩ := h
  rw [gpI_append 0 (pre ++ [s]) r]
  exact List.prefix_append _ _

theorem gpI_gaps (l : List SpI) (size : Int) : gpI 0 l <+: gapsI l size := List.prefix_append _ _

end Go.Rc5
namespace Go.Proofs.Yteellffkjjllgaa
open Go.RowKit Go.Rc5 Go.Shelf

attribute [local go_sem] Oper.semAt_some


theorem filter_pre (L : List SpI) (p : SpI → Bool) (k : Nat) (h : k < L.length) (hp : p (L.getD k (0, 0)) = true) : (L.take k).filter p ++ [L.getD k (0, 0)] <+: L.filter p := by
  have e : (L.take (k + 1)).filter p = (L.take k).filter p ++ [L.getD k (0, 0)] := by
    rw [take_snoc L k (0, 0) h, List.filter_append, List.filter_cons_of_pos hp, List.filter_nil]
  rw [← e]
  exact (List.take_prefix _ _).filter p

set_option maxRecDepth 100000 in
set_option maxHeartbeats 4000000 in
theorem full_gives (L : List SpI) (a : Option Addr) (c len B : Nat) (W0 : World) (hB : W0.heap[B]? = some (.cells #[.slice a len c] 33 (0, 0))) (n0 : Nat) (hn0 : n0 ≤ W0.heap.size) (h : ∀ W', (∀ x, a = some x → x.block < n0 → W'.heap[x.block]? = W0.heap[x.block]?) → SpansAt W' a L) (hl : L.length = len) (hlen : len ≤ 1000000) :
    Gives Try.prog 103 #[.pointer (some ⟨B, 0, none⟩)] encS (L.filter fun s => decide (1 ≤ s.2)) (rowR n0 a B) W0 := by
  refine ⟨?_, ?_⟩
  · rintro k (rfl | ⟨h, _⟩)
    · exact (Array.getElem?_eq_some_iff.1 hB).1
    · exact Nat.lt_of_lt_of_le h hn0
  intro l J Jx O W hsz hR hO h0 hY
  have cB : W.cell? ⟨B, 0, none⟩ = some (.slice a len c) := by
    have := (hR B (.inl rfl)).trans hB
    exact (Lib.cell_of_heap this 0).trans rfl
  have HS : Hid (∀ W', Moved O W W' → SpansAt W' a L) := fun W' hm => h W' fun x hx hlt => by
    have hr : rowR n0 a B x.block := .inr ⟨hlt, x, hx, rfl⟩
    exact (hm.block x.block (by omega) (hO _ hr)).trans (hR _ hr)
  have HY := Lib.hid hY
  have HL := Lib.hid hl
  have H0 := Lib.hid (Crew.only h0)
  clear h hB hR hO hY h0 hl
  refine (callsIn_wide (n := 3)).1 (callsIn_of_wp Try.func103 rfl trivial ?_ rfl)
  simp only [Try.ntmps103, List.size_toArray, List.length_cons, List.length_nil, Nat.reduceAdd, Nat.reduceSub, Array.replicate_succ, Array.replicate_zero, List.push_toArray, List.append_toArray, List.nil_append, List.cons_append]
  gi_wp2
  gi_loopw [7] (fun i wr => ∃ k : Nat, i = .int .i64 k ∧ k ≤ len ∧ Crew O W [J ((L.take k).filter fun s => decide (1 ≤ s.2))] wr) (fun i _ => len - (intOf i).toNat)
  case atStart => exact ⟨0, rfl, Nat.zero_le _, H0.out⟩
  case round =>
    obtain ⟨k, rfl, hk, C⟩ := hrel
    have HC := Lib.hid C
    clear C
    by_cases hlt : k < len
    · have hltI : (k : Int) < len := by omega
      obtain ⟨x, rfl, c0, c1⟩ := HS.out wr HC.out.mv k (by rw [HL.out]; exact hlt)
      have HP := Lib.hid (filter_pre L (fun s => decide (1 ≤ s.2)) k (by rw [HL.out]; exact hlt))
      have HT := Lib.hid (take_snoc L k (0, 0) (by rw [HL.out]; exact hlt))
      have HC1 := Lib.hid (HC.out.block #[.int .i64 (L.getD k (0, 0)).1, .int .i64 (L.getD k (0, 0)).2] 59)
      generalize L.getD k (0, 0) = s at *
      obtain ⟨s1, s2⟩ := s
      dsimp only at c0 c1 HC1 HP
      by_cases hm : 1 ≤ s2
      · have hp := HP.out (decide_eq_true hm)
        have HF : Hid ((L.take (k + 1)).filter (fun s => decide (1 ≤ s.2)) = (L.take k).filter (fun s => decide (1 ≤ s.2)) ++ [(s1, s2)]) := by
          unfold Hid
          rw [HT.out, List.filter_append, List.filter_cons_of_pos (by simpa using hm), List.filter_nil]
        obtain ⟨O', ho, hset, _⟩ := HC1.out.one (i := 0) rfl
        have HSET := Lib.hid hset
        obtain ⟨fn, tmps, assign, body, hy, hR⟩ := HY.out _ _ _ _ hp ho
        have HRR := Lib.hid hR
        have HPP := Lib.hid hp
        clear hR hset ho hp
        dsimp only [encS] at hy
        gi_wp2
        refine (show RoundIn Fence.wide _ _ _ _ _ _ _ _ _ from ⟨HRR.out.1, fun c cs _ => HRR.out.2 c cs (room_wide _)⟩).mono ?_
        rintro e W3 (⟨rfl, hT⟩ | ⟨rfl, hT⟩)
        · have C3 := Crew.first (l := [_]) (HSET.out _ _ hT)
          rw [← HF.out] at C3
          have HC3 := Lib.hid C3
          clear hT C3
          gi_wp2
          go_roundw
          case rel => exact ⟨k + 1, by simp, by omega, HC3.out⟩
          case measure => simp [intOf]; omega
        · have C3 := Crew.first (l := [_]) (HSET.out _ _ hT)
          have HC3 := Lib.hid C3
          clear hT C3
          gi_wp2
          refine bodyPost_ret (results_none rfl _ _ _) rfl ?_
          exact ⟨⟨_, rfl⟩, .inr ⟨_, HPP.out, HC3.out.turns⟩⟩
      · have HF : Hid ((L.take (k + 1)).filter (fun s => decide (1 ≤ s.2)) = (L.take k).filter (fun s => decide (1 ≤ s.2))) := by
          unfold Hid
          rw [HT.out, List.filter_append, List.filter_cons_of_neg (by simpa using hm), List.filter_nil, List.append_nil]
        have C3 := Crew.first (l := [_]) HC1.out
        rw [← HF.out] at C3
        have HC3 := Lib.hid C3
        clear C3
        gi_wp2
        try refine ⟨fun _ h => (by cases h), ?_⟩
        gi_wp2
        go_roundw
        case rel => exact ⟨k + 1, by simp, by omega, HC3.out⟩
        case measure => simp [intOf]; omega
    · have hltI : ¬ (k : Int) < len := by omega
      have e : L.take k = L := List.take_of_length_le (by have := HL.out; omega)
      rw [e] at HC
      gi_wp2
      go_end0
      exact ⟨⟨_, rfl⟩, .inl HC.out.turns⟩


end Go.Proofs.Yteellffkjjllgaa

namespace Go.Rc5

theorem list_same {A B : List SpI} (hl : A.length = B.length) (h : ∀ j, j < A.length → A.getD j (0, 0) = B.getD j (0, 0)) : A = B := by
  apply List.ext_getElem hl
  intro j h1 h2
  have := h j h1
  simpa [List.getD_eq_getElem?_getD, h1, h2] using this

/-- Has a row a sector, as it is asked of any number. -/
def hasI (N : List Sp) (x : Int) : Bool := N.any fun s => decide ((s.1 : Int) ≤ x) && decide (x - s.1 < s.2)

theorem hasI_nat (N : List Sp) (x : Nat) : hasI N x = memB N x := by
  unfold hasI memB
  congr 1
  funext s
  rw [Bool.eq_iff_iff, inB_iff]
  simp
  omega

theorem hasI_neg (N : List Sp) {x : Int} (h : x < 0) : hasI N x = false := by
  unfold hasI
  rw [List.any_eq_false]
  intro s _
  simp
  omega

theorem any_take (N : List Sp) (f : Sp → Bool) (k : Nat) (h : k < N.length) : (N.take (k + 1)).any f = ((N.take k).any f || f (N.getD k (0, 0))) := by
  rw [take_snoc N k (0, 0) h]
  simp

theorem total_take (N : List Sp) (k : Nat) (h : k < N.length) : total (N.take (k + 1)) = total (N.take k) + (N.getD k (0, 0)).2 := by
  rw [take_snoc N k (0, 0) h, total_append, total_cons, total_nil, Nat.add_zero]

theorem total_bound (N : List Sp) (h : ∀ s ∈ N, s.2 ≤ 8192) : total N ≤ N.length * 8192 := by
  induction N with
  | nil => exact Nat.zero_le _
  | cons s r ih =>
    have h1 := h s List.mem_cons_self
    have h2 := ih (fun t ht => h t (List.mem_cons_of_mem _ ht))
    rw [total_cons, List.length_cons]
    omega

end Go.Rc5
namespace Go.Proofs.Yteellffkjjllgaa
open Go.RowKit Go.Rc5

set_option maxHeartbeats 2000000 in
theorem same_any (A B : List SpI) (a b : Option Addr) (ca cb na nb : Nat) (w : World) (hA : SpansAt w a A) (hB : SpansAt w b B) (ha : A.length = na) (hb : B.length = nb) (hl : na ≤ 1000000) :
    Calls Try.prog 34 #[.slice a na ca, .slice b nb cb] w fun e w' => e = .returned (.bool (decide (A = B))) ∧ Below w.heap.size w w' := by
  have HA := Lib.hid (fun W (hb : Below w.heap.size w W) => SpansAt.below hA hb)
  have HB := Lib.hid (fun W (hb : Below w.heap.size w W) => SpansAt.below hB hb)
  have HLA := Lib.hid ha
  have HLB := Lib.hid hb
  clear hA hB ha hb
  by_cases he : na = nb
  · subst he
    go_enter Try.func34, Try.ntmps34
    go_wp2
    go_loopw [5] (fun i wr => ∃ k : Nat, i = .int .i64 k ∧ k ≤ na ∧ (∀ j, j < k → A.getD j (0, 0) = B.getD j (0, 0)) ∧ Below w.heap.size w wr) (fun i _ => (na - intOf i).toNat)
    case atStart => exact ⟨0, rfl, Nat.zero_le _, fun j hj => absurd hj (Nat.not_lt_zero _), Below.refl _ _⟩
    case round =>
      obtain ⟨k, rfl, hk, hall, hBw⟩ := hrel
      have HAL := Lib.hid hall
      clear hall
      by_cases hlt : k < na
      · have hltI : (k : Int) < na := by omega
        obtain ⟨x, rfl, c0, c1⟩ := HA.out wr hBw k (by rw [HLA.out]; exact hlt)
        obtain ⟨y, rfl, d0, d1⟩ := HB.out wr hBw k (by rw [HLB.out]; exact hlt)
        by_cases hs : A.getD k (0, 0) = B.getD k (0, 0)
        · have HS := Lib.hid hs
          rw [← hs] at d0 d1
          clear hs
          generalize A.getD k (0, 0) = s at c0 c1 d0 d1
          obtain ⟨s1, s2⟩ := s
          dsimp only at c0 c1 d0 d1
          go_wp2_with fail
          go_quiet (fail)
          have HBQ := Lib.hid (below_drewN hBw nq)
          clear c0 c1 d0 d1
          generalize wr.drewN nq = wq at *
          go_wp2
          refine ⟨⟨k + 1, by go_num, by omega, fun j hj => ?_, HBQ.out⟩, by simp [intOf]; omega⟩
          by_cases e : j = k
          · subst e
            exact HS.out
          · exact HAL.out j (by omega)
        · have HS := Lib.hid hs
          clear hs
          generalize hs : A.getD k (0, 0) = s at *
          generalize ht : B.getD k (0, 0) = t at *
          have HNE : Hid (¬ A = B) := fun e => HS.out (by rw [← hs, ← ht, e])
          obtain ⟨s1, s2⟩ := s
          obtain ⟨t1, t2⟩ := t
          dsimp only at c0 c1 d0 d1
          clear hs ht
          by_cases h1 : s1 = t1
          · subst h1
            have h2 : (s2 == t2) = false := by
              rw [beq_eq_false_iff_ne]
              intro e
              exact HS.out (by rw [e])
            clear HS
            go_wp2_with fail
            go_quiet (fail)
            have HBQ := Lib.hid (below_drewN hBw nq)
            clear c0 c1 d0 d1
            generalize wr.drewN nq = wq at *
            go_wp2
            go_ret
            exact ⟨by rw [decide_eq_false HNE.out]; rfl, HBQ.out⟩
          · have h1B : (s1 == t1) = false := by simpa using h1
            clear h1 HS
            go_wp2_with fail
            go_quiet (fail)
            have HBQ := Lib.hid (below_drewN hBw nq)
            clear c0 c1 d0 d1
            generalize wr.drewN nq = wq at *
            go_wp2
            go_ret
            exact ⟨by rw [decide_eq_false HNE.out]; rfl, HBQ.out⟩
      · have hltI : ¬ (k : Int) < na := by omega
        obtain rfl : k = na := by omega
        go_wp2
        go_ret
        have e : A = B := list_same (HLA.out.trans HLB.out.symm) (fun j hj => HAL.out j (by have := HLA.out; omega))
        exact ⟨by rw [decide_eq_true e]; rfl, hBw⟩
  · have heI : ((na : Int) != nb) = true := by simp; omega
    have e : ¬ A = B := fun e => he (by rw [← HLA.out, ← HLB.out, e])
    rw [decide_eq_false e]
    clear e he
    go_enter Try.func34, Try.ntmps34
    go_wp2
    go_ret
    exact ⟨rfl, Below.refl _ _⟩

set_option maxHeartbeats 2000000 in
theorem rtotal_any (N : List Sp) (a : Option Addr) (c len : Nat) (w : World) (h : SpansAt w a (castS N)) (hl : N.length = len) (hlen : len ≤ 100000) (hm : ∀ s ∈ N, s.2 ≤ 8192) :
    Calls Try.prog 60 #[.slice a len c] w fun e w' => e = .returned (.int .i64 (total N)) ∧ w = w' := by
  have HS := Lib.hid h
  have HL := Lib.hid hl
  have HM := Lib.hid hm
  clear h hl hm
  go_enter Try.func60, Try.ntmps60
  go_wp2
  go_loopw [3, 4] (fun v i wr => ∃ k : Nat, i = .int .i64 k ∧ v = .int .i64 (total (N.take k)) ∧ k ≤ len ∧ w = wr) (fun _ i _ => (len - intOf i).toNat)
  case atStart => exact ⟨0, rfl, rfl, Nat.zero_le _, rfl⟩
  case round =>
    obtain ⟨k, rfl, rfl, hk, rfl⟩ := hrel
    by_cases hlt : k < len
    · have hltI : (k : Int) < len := by omega
      obtain ⟨x, rfl, c0, c1⟩ := HS.out k (by rw [castS_length, HL.out]; exact hlt)
      rw [castS_getD] at c1
      have hb := total_bound (N.take k) (fun s hs => HM.out s (List.mem_of_mem_take hs))
      have hlt2 : (N.take k).length ≤ 100000 := by simp; omega
      have HT := Lib.hid (total_take N k (by rw [HL.out]; exact hlt))
      have hs2 : (N.getD k (0, 0)).2 ≤ 8192 := HM.out _ (by rw [List.getD_eq_getElem?_getD, List.getElem?_eq_getElem (by rw [HL.out]; exact hlt)]; exact List.getElem_mem _)
      have htb : total (N.take k) ≤ 1000000000 := by omega
      clear c0 hb hlt2
      generalize (N.getD k (0, 0)).2 = m at *
      generalize total (N.take k) = T at *
      have hmx : max (m : Int) 0 = m := by omega
      go_wp2
      refine ⟨⟨k + 1, by go_num, ?_, by omega, trivial⟩, by simp [intOf]; omega⟩
      rw [HT.out]
      simp
    · have hltI : ¬ (k : Int) < len := by omega
      have e : N.take k = N := List.take_of_length_le (by have := HL.out; omega)
      rw [e]
      go_wp2
      go_ret
      exact ⟨rfl, rfl⟩

end Go.Proofs.Yteellffkjjllgaa

namespace Go.Rc5

theorem right_iff {N : List Sp} {n : Nat} (hf : ∀ s ∈ N, s.1 + s.2 ≤ n) : (N.Pairwise Apart ∧ castS (rows (memB N) n) = castS N) ↔ Ch 0 N := by
  constructor
  · rintro ⟨_, h⟩
    rw [← castS_inj h]
    exact (rows_ok _ _).ch
  · intro h
    refine ⟨h.apart, ?_⟩
    rw [rows_mem h]
    intro x hx
    rw [memB_iff] at hx
    obtain ⟨s, hs, h1, h2⟩ := hx
    have := hf s hs
    omega

theorem Ch.take {lo : Nat} {l : List Sp} (h : Ch lo l) (k : Nat) : Ch lo (l.take k) := by
  induction l generalizing lo k with
  | nil => simp; trivial
  | cons s r ih =>
    cases k with
    | zero => trivial
    | succ k => exact ⟨h.1, h.2.1, ih h.2.2 k⟩

/-- What lies behind the k-th span begins behind it. -/
theorem Ch.drop_ge {lo : Nat} {l : List Sp} (h : Ch lo l) (k : Nat) (hk : k < l.length) : Ch ((l.getD k (0, 0)).1 + (l.getD k (0, 0)).2 + 1) (l.drop (k + 1)) := by
  induction l generalizing lo k with
  | nil => simp at hk
  | cons s r ih =>
    cases k with
    | zero => simpa using h.2.2
    | succ k => simpa using ih h.2.2 k (by simpa using hk)

theorem Ch.ahead {lo : Nat} {l : List Sp} (h : Ch lo l) (k : Nat) (hk : k < l.length) : ∀ t ∈ l.take k, t.1 + t.2 + 1 ≤ (l.getD k (0, 0)).1 := by
  induction l generalizing lo k with
  | nil => simp at hk
  | cons s r ih =>
    cases k with
    | zero => intro t ht; simp at ht
    | succ k =>
      intro t ht
      rw [List.take_succ_cons, List.mem_cons] at ht
      have hk' : k < r.length := by simpa using hk
      rcases ht with rfl | ht
      · have hm : memB r (r.getD k (0, 0)).1 = true := by
          rw [memB_iff]
          refine ⟨r.getD k (0, 0), ?_, Nat.le_refl _, ?_⟩
          · rw [List.getD_eq_getElem?_getD, List.getElem?_eq_getElem hk']
            exact List.getElem_mem _
          · have := h.2.2.some (r.getD k (0, 0)) (by rw [List.getD_eq_getElem?_getD, List.getElem?_eq_getElem hk']; exact List.getElem_mem _)
            omega
        have := h.2.2.ge hm
        simpa using this
      · simpa using ih h.2.2 k hk' t ht

/-- How many sectors lie ahead of y, which is in the k-th span, or right behind it. -/
theorem cnt_at {l : List Sp} (h : Ch 0 l) (k y : Nat) (hk : k < l.length) (h1 : (l.getD k (0, 0)).1 ≤ y) (h2 : y ≤ (l.getD k (0, 0)).1 + (l.getD k (0, 0)).2) :
    cnt (memB l) y = total (l.take k) + (y - (l.getD k (0, 0)).1) := by
  have had := h.ahead k hk
  have hdr := h.drop_ge k hk
  have hsp : l = l.take k ++ [l.getD k (0, 0)] ++ l.drop (k + 1) := by
    rw [← take_snoc l k (0, 0) hk, List.take_append_drop]
  have hct := h.take k
  generalize hs : l.getD k (0, 0) = s at *
  obtain ⟨s1, s2⟩ := s
  dsimp only at h1 h2 had hdr
  have e : ∀ x, x < y → memB l x = memB (l.take k ++ [(s1, y - s1)]) x := by
    intro x hx
    conv => lhs; rw [hsp]
    rw [memB_append, memB_append, memB_append]
    have n1 : memB (l.drop (k + 1)) x = false := by
      rw [Bool.eq_false_iff]
      intro e
      have := hdr.ge e
      omega
    have n2 : memB [(s1, s2)] x = memB [(s1, y - s1)] x := by
      simp only [memB, List.any_cons, List.any_nil, Bool.or_false]
      rw [Bool.eq_iff_iff, inB_iff, inB_iff]
      dsimp only
      omega
    rw [n1, n2, Bool.or_false]
  rw [cnt_congr e, ← total_cnt (l := l.take k ++ [(s1, y - s1)]) (n := y)]
  · rw [total_append, total_cons, total_nil]
    rfl
  · rw [List.pairwise_append]
    refine ⟨hct.apart, List.pairwise_singleton _ _, fun t ht u hu x hx => ?_⟩
    rw [List.mem_singleton] at hu
    subst hu
    rw [Bool.eq_false_iff]
    intro e
    have a1 := (inB_iff _ _).1 hx
    have a2 := (inB_iff _ _).1 e
    have a3 := had t ht
    dsimp only at a2
    omega
  · intro t ht
    rw [List.mem_append, List.mem_singleton] at ht
    rcases ht with ht | rfl
    · have := had t ht
      omega
    · show s1 + (y - s1) ≤ y
      omega

/-- The n lowest sectors of a row, and the others. -/
def oneB (N : List Sp) (n x : Nat) : Bool := memB N x && decide (cnt (memB N) x < n)
def twoB (N : List Sp) (n x : Nat) : Bool := memB N x && !decide (cnt (memB N) x < n)

end Go.Rc5
namespace Go.Proofs.Yteellffkjjllgaa
open Go.RowKit Go.Rc5

set_option maxHeartbeats 2000000 in
theorem rright_bad (L : List SpI) (a : Option Addr) (c len : Nat) (size : Int) (w : World) (h : SpansAt w a L) (hl : L.length = len) (hlen : len ≤ 100000) (hb : Bad L size) :
    Calls Try.prog 59 #[.slice a len c, .int .i64 size] w fun e w' => e = .returned (.bool false) ∧ Below w.heap.size w w' := by
  have HM := Lib.hid (rnorm_bad L a c len size w h hl hlen hb)
  clear h hb hl
  go_enter Try.func59, Try.ntmps59
  go_wp2_with fail
  refine HM.out.mono ?_
  rintro e w1 ⟨rfl, hb1⟩
  go_wp2
  go_ret
  exact ⟨rfl, hb1⟩

def YesIf (p : Prop) (w : World) (e : Ending) (w' : World) : Prop := ∃ f : Bool, e = .returned (.bool f) ∧ (f = true ↔ p) ∧ Below w.heap.size w w'

set_option maxHeartbeats 4000000 in
theorem rright_good (L : List SpI) (N : List Sp) (n : Nat) (a : Option Addr) (c len : Nat) (w : World) (h : SpansAt w a L) (hl : L.length = len) (hlen : len ≤ 100000) (hg : Fits L N n) :
    Calls Try.prog 59 #[.slice a len c, .int .i64 n] w (YesIf (Ch 0 N) w) := by
  have HM := Lib.hid (rnorm_good L N n a c len w h hl hlen hg)
  have HS := Lib.hid (fun W (hb : Below w.heap.size w W) => SpansAt.below h hb)
  have HL := Lib.hid hl
  have HIFF := Lib.hid (right_iff hg.fit)
  have HEQ := Lib.hid hg.eq
  clear h hl hg
  go_enter Try.func59, Try.ntmps59
  go_wp2_with fail
  refine HM.out.mono ?_
  rintro e w1 (⟨rfl, hp, hb1⟩ | ⟨v, rfl, hp, hf⟩)
  · have HP := Lib.hid hp
    clear hp HM
    go_wp2
    go_ret
    exact ⟨false, rfl, by rw [← HIFF.out]; exact ⟨fun e => (by cases e), fun e => absurd e.1 HP.out⟩, hb1⟩
  · have HP := Lib.hid hp
    have hC := (Crew.start w).more hf
    obtain ⟨a1, c1, rfl⟩ := hC.slice 0 rfl
    obtain ⟨_, hat⟩ := spans_own (hC.own 0 rfl)
    have HB1 := Lib.hid hf.bel
    have HT := Lib.hid (fun W (hb : Below w1.heap.size w1 W) => SpansAt.below hat hb)
    have HLR := Lib.hid (rows_len (memB N) n)
    clear hp hf HM hC hat
    obtain ⟨R, hR⟩ : ∃ R, R = castS (rows (memB N) n) := ⟨_, rfl⟩
    rw [← hR] at HT HIFF ⊢
    rw [← HEQ.out] at HIFF
    obtain ⟨q, hq⟩ : ∃ q, R.length = q := ⟨_, rfl⟩
    rw [hq]
    have HQ := Lib.hid hq
    clear hR hq
    by_cases he : q = len
    · subst he
      go_wp2
      go_loopw [7] (fun i wr => ∃ k : Nat, i = .int .i64 k ∧ k ≤ q ∧ (∀ j, j < k → L.getD j (0, 0) = R.getD j (0, 0)) ∧ Below w1.heap.size w1 wr) (fun i _ => (q - intOf i).toNat)
      case atStart => exact ⟨0, rfl, Nat.zero_le _, fun j hj => absurd hj (Nat.not_lt_zero _), Below.refl _ _⟩
      case round =>
        obtain ⟨k, rfl, hk, hall, hBw⟩ := hrel
        have HAL := Lib.hid hall
        have HBW := Lib.hid (HB1.out.trans (hBw.mono HB1.out.size))
        clear hall
        by_cases hlt : k < q
        · have hltI : (k : Int) < q := by omega
          obtain ⟨x, rfl, c0, c1⟩ := HS.out wr HBW.out k (by rw [HL.out]; exact hlt)
          obtain ⟨y, rfl, d0, d1⟩ := HT.out wr hBw k (by rw [HQ.out]; exact hlt)
          by_cases hs : L.getD k (0, 0) = R.getD k (0, 0)
          · have HS2 := Lib.hid hs
            rw [← hs] at d0 d1
            clear hs
            generalize L.getD k (0, 0) = s at c0 c1 d0 d1
            obtain ⟨s1, s2⟩ := s
            dsimp only at c0 c1 d0 d1
            go_wp2_with fail
            go_quiet (fail)
            have HBQ := Lib.hid (below_drewN hBw nq)
            clear c0 c1 d0 d1
            generalize wr.drewN nq = wq at *
            go_wp2
            refine ⟨⟨k + 1, by go_num, by omega, fun j hj => ?_, HBQ.out⟩, by simp [intOf]; omega⟩
            by_cases e : j = k
            · subst e
              exact HS2.out
            · exact HAL.out j (by omega)
          · have HS2 := Lib.hid hs
            clear hs
            generalize hs : L.getD k (0, 0) = s at *
            generalize ht : R.getD k (0, 0) = t at *
            have HNE : Hid (¬ R = L) := fun e => HS2.out (by rw [← hs, ← ht, e])
            obtain ⟨s1, s2⟩ := s
            obtain ⟨t1, t2⟩ := t
            dsimp only at c0 c1 d0 d1
            clear hs ht
            by_cases h1 : s1 = t1
            · subst h1
              have h2 : (s2 == t2) = false := by
                rw [beq_eq_false_iff_ne]
                intro e
                exact HS2.out (by rw [e])
              clear HS2
              go_wp2_with fail
              go_quiet (fail)
              have HBQ := Lib.hid (below_drewN HBW.out nq)
              clear c0 c1 d0 d1
              generalize wr.drewN nq = wq at *
              go_wp2
              go_ret
              exact ⟨false, rfl, by rw [← HIFF.out]; exact ⟨fun e => (by cases e), fun e => absurd e.2 HNE.out⟩, HBQ.out⟩
            · have h1B : (s1 == t1) = false := by simpa using h1
              clear h1 HS2
              go_wp2_with fail
              go_quiet (fail)
              have HBQ := Lib.hid (below_drewN HBW.out nq)
              clear c0 c1 d0 d1
              generalize wr.drewN nq = wq at *
              go_wp2
              go_ret
              exact ⟨false, rfl, by rw [← HIFF.out]; exact ⟨fun e => (by cases e), fun e => absurd e.2 HNE.out⟩, HBQ.out⟩
        · have hltI : ¬ (k : Int) < q := by omega
          obtain rfl : k = q := by omega
          go_wp2
          go_ret
          have e : R = L := (list_same (HL.out.trans HQ.out.symm) (fun j hj => HAL.out j (by have := HL.out; omega))).symm
          exact ⟨true, rfl, by rw [← HIFF.out]; exact ⟨fun _ => ⟨HP.out, e⟩, fun _ => rfl⟩, HBW.out⟩
    · have heI : ((q : Int) != len) = true := by simp; omega
      have HNE : Hid (¬ R = L) := fun e => he (by rw [← HQ.out, ← HL.out, e])
      clear he
      go_wp2
      go_ret
      exact ⟨false, rfl, by rw [← HIFF.out]; exact ⟨fun e => (by cases e), fun e => absurd e.2 HNE.out⟩, HB1.out⟩

end Go.Proofs.Yteellffkjjllgaa

namespace Go.Rc5

def sumI (l : List SpI) : Int := (l.map (·.2)).sum

theorem sumI_nil : sumI [] = 0 := rfl
theorem sumI_snoc (l : List SpI) (s : SpI) : sumI (l ++ [s]) = sumI l + s.2 := by simp [sumI]
theorem sumI_append (l l' : List SpI) : sumI (l ++ l') = sumI l + sumI l' := by simp [sumI]
theorem sumI_pos {l : List SpI} (h : ∀ s ∈ l, 0 ≤ s.2) : 0 ≤ sumI l := by
  induction l with
  | nil => exact Int.le_refl _
  | cons s r ih =>
    have h1 := h s List.mem_cons_self
    have h2 := ih (fun t ht => h t (List.mem_cons_of_mem _ ht))
    have e : sumI (s :: r) = s.2 + sumI r := by simp [sumI]
    omega

/-- The spans that have sectors. -/
def fullL (N : List Sp) : List SpI := (castS N).filter fun s => decide (1 ≤ s.2)

theorem fullL_mem {N : List Sp} {s : SpI} (h : s ∈ fullL N) : ∃ t ∈ N, s = ((t.1 : Int), (t.2 : Int)) ∧ 1 ≤ t.2 := by
  unfold fullL at h
  rw [List.mem_filter] at h
  obtain ⟨h1, h2⟩ := h
  simp only [castS, List.mem_map] at h1
  obtain ⟨t, ht, rfl⟩ := h1
  exact ⟨t, ht, rfl, by simp at h2; omega⟩

theorem fullL_sum (N : List Sp) : sumI (fullL N) = total N := by
  induction N with
  | nil => rfl
  | cons s r ih =>
    have e : castS (s :: r) = ((s.1 : Int), (s.2 : Int)) :: castS r := rfl
    unfold fullL at ih ⊢
    rw [e, total_cons]
    by_cases h : 1 ≤ (s.2 : Int)
    · rw [List.filter_cons_of_pos (by simpa using h)]
      have e2 : ∀ (x : SpI) (l : List SpI), sumI (x :: l) = x.2 + sumI l := fun x l => by simp [sumI]
      rw [e2, ih]
      simp
    · rw [List.filter_cons_of_neg (by simpa using h), ih]
      omega

theorem fullL_pre {N : List Sp} {pre : List SpI} {x : SpI} (h : pre ++ [x] <+: fullL N) : 0 ≤ sumI pre ∧ 1 ≤ x.2 ∧ sumI pre + x.2 ≤ total N := by
  obtain ⟨r, hr⟩ := h
  have hp : ∀ s ∈ fullL N, 1 ≤ s.2 := fun s hs => by
    obtain ⟨t, _, rfl, h⟩ := fullL_mem hs
    show 1 ≤ (t.2 : Int)
    omega
  rw [← fullL_sum, ← hr, sumI_append, sumI_snoc]
  rw [← hr] at hp
  have h1 := sumI_pos (l := pre) (fun s hs => by have := hp s (by simp [hs]); omega)
  have h2 := sumI_pos (l := r) (fun s hs => by have := hp s (by simp [hs]); omega)
  have h3 := hp x (by simp)
  omega

def hasL (l : List SpI) (at_ : Int) : Bool := l.any fun s => decide (s.1 ≤ at_) && decide (at_ - s.1 < s.2)

theorem hasL_snoc (l : List SpI) (s : SpI) (at_ : Int) : hasL (l ++ [s]) at_ = (hasL l at_ || (decide (s.1 ≤ at_) && decide (at_ - s.1 < s.2))) := by simp [hasL]

theorem hasL_full (N : List Sp) (at_ : Int) : hasL (fullL N) at_ = hasI N at_ := by
  induction N with
  | nil => rfl
  | cons s r ih =>
    have e : castS (s :: r) = ((s.1 : Int), (s.2 : Int)) :: castS r := rfl
    unfold fullL at ih ⊢
    rw [e]
    have e2 : hasI (s :: r) at_ = ((decide ((s.1 : Int) ≤ at_) && decide (at_ - s.1 < s.2)) || hasI r at_) := by simp [hasI]
    rw [e2, ← ih]
    by_cases h : 1 ≤ (s.2 : Int)
    · rw [List.filter_cons_of_pos (by simpa using h)]
      simp [hasL]
    · rw [List.filter_cons_of_neg (by simpa using h)]
      have : (decide ((s.1 : Int) ≤ at_) && decide (at_ - s.1 < s.2)) = false := by
        by_cases h1 : (s.1 : Int) ≤ at_
        · have h2 : ¬ (at_ - s.1 < s.2) := by omega
          simp [h2]
        · simp [h1]
      rw [this, Bool.false_or]

theorem hasL_pre {l l' : List SpI} {at_ : Int} (h : l <+: l') (ht : hasL l at_ = true) : hasL l' at_ = true := by
  obtain ⟨r, rfl⟩ := h
  unfold hasL at ht ⊢
  rw [List.any_append, ht, Bool.true_or]

end Go.Rc5
namespace Go.Proofs.Yteellffkjjllgaa
open Go.RowKit Go.Rc5 Go.Shelf

attribute [local go_sem] Oper.semAt_some

theorem eg38 : ∀ args w, (callFunc 102 args).run Try.prog w = .ok (.enter 102 args) w := enters_of Try.func102 (by kernel_rfl) rfl
theorem eg40 : ∀ args w, (callFunc 103 args).run Try.prog w = .ok (.enter 103 args) w := enters_of Try.func103 (by kernel_rfl) rfl
set_option maxRecDepth 100000 in
set_option maxHeartbeats 4000000 in
theorem ptotal (N : List Sp) (a : Option Addr) (c len : Nat) (w : World) (h : SpansAt w a (castS N)) (hl : N.length = len) (hlen : len ≤ 100000) (hm : ∀ s ∈ N, s.2 ≤ 8192) :
    Calls Try.prog 84 #[.slice a len c] w fun e w' => e = .returned (.int .i64 (total N)) ∧ Below w.heap.size w w' := by
  have hb := total_bound N hm
  have htb : total N ≤ 1000000000 := by omega
  have H0 := ((Crew.start w).block #[.int .i64 0] 3).block #[.slice a len c] 33
  have hbl := H0.bel
  have HG := Lib.hid (full_gives (castS N) a c len (w.heap.size + 1) _ (by have := (H0.one (i := 1) rfl).choose_spec.1.1; rwa [World.size_alloc] at this) w.heap.size hbl.size (spans_reads h hbl) (by rw [castS_length, hl]) (by omega))
  rw [World.size_alloc] at H0
  have HC : Hid (Crew (fun _ => False) w [blkT (w.heap.size + 1) #[.slice a len c] 33, blkT w.heap.size #[.int .i64 0] 3] _) := H0.pick [1, 0] (by decide) rfl
  clear h hl hm hb H0 hbl
  refine (callsIn_wide (n := 3)).1 (callsIn_of_wp_marks Try.func84 rfl trivial ?_ rfl)
  simp only [Try.ntmps84, List.size_toArray, List.length_cons, List.length_nil, Nat.reduceAdd, Nat.reduceSub, Array.replicate_succ, Array.replicate_zero, List.push_toArray, List.append_toArray, List.nil_append, List.cons_append]
  gi_wp2_with (refine ⟨trivial, ?_⟩; gi_at_call 96; refine (callsIn_wide.2 (full_any _ _ _ _)).mono ?_; rintro e w1 ⟨rfl, rfl⟩)
  refine wpIn_range (gf := 103) rfl eg40 HG.out (Nat.le_refl _) (fun _ _ => rfl) (fun _ => rfl)
    (fun pre => blkT w.heap.size #[.int .i64 (sumI pre)] 3)
    (fun _ _ => withT False noT)
    (fun pre x a' => exT fun Bx : Nat => withT (a' = { tmps := #[.slice a len c, undef, .int .i64 0, .pointer (some ⟨w.heap.size, 0, none⟩), .pointer (some ⟨Bx, 0, none⟩), .slice a len c, .func (.func 103) #[] #[.pointer (some ⟨w.heap.size + 1, 0, none⟩)], .agg #[.int .i64 x.1, .int .i64 x.2], undef, undef, undef, undef, undef], defers := [] })
      (groupT [blkT w.heap.size #[.int .i64 (sumI pre)] 3, blkT Bx #[.int .i64 x.1, .int .i64 x.2] 59]))
    HC.out (by rintro OS _ ⟨_, rfl⟩ k (rfl | ⟨hk, _⟩); exact .inl rfl; exact .inr ⟨hk, fun h => h⟩) ?assign ?body ?done ?stop
  case assign =>
    rintro l' pre x O' W' K hI hK
    have C := (Crew.only hI).block #[.int .i64 x.1, .int .i64 x.2] 59
    have HT := Lib.hid (groupT_shut C)
    have HK := Lib.hid hK
    clear C hI hK
    dsimp only [encS]
    gi_wp2
    exact HK.out _ _ (Turns.ex W'.heap.size (Turns.and rfl HT.out))
  case body =>
    rintro l' pre x a' O' W' hpre ⟨Bx, rfl, hgrp⟩
    have C := groupT_open hgrp
    have hq := fullL_pre hpre
    have HN := Lib.hid (sumI_snoc pre x)
    obtain ⟨x1, x2⟩ := x
    have ct := (C.at 0 rfl (j := 0) rfl).1
    have ft := (C.at 0 rfl (j := 0) rfl).2
    have cx := (C.at 1 rfl (j := 0) rfl).1
    have cx1 := (C.at 1 rfl (j := 1) rfl).1
    have HC := Lib.hid C
    clear C hgrp hpre
    dsimp only at hq HN cx cx1
    generalize sumI pre = q at *
    have C4 := HC.out.set 0 rfl 0 (.int .i64 (q + x2))
    have HC4 : Hid (Turns (blkT w.heap.size #[.int .i64 (sumI (pre ++ [(x1, x2)]))] 3) O' W' (W'.setCell ⟨w.heap.size, 0, none⟩ (.int .i64 (q + x2)))) := by
      unfold Hid
      rw [HN.out]
      exact (C4.pick [0] (by decide) rfl).turns
    clear C4
    gi_wp2
    exact HC4.out
  case done =>
    intro D W3 C
    have ct := (C.at 1 rfl (j := 0) rfl).1
    have hD := C.obj 2 rfl
    have HB := Lib.hid (C.objPut 2 rfl (.deferred none)).bel
    clear C
    have hs : sumI ((castS N).filter fun s => decide (1 ≤ s.2)) = total N := fullL_sum N
    rw [hs] at ct
    gi_wp2
    refine ⟨by simp, .inl ⟨_, _, rfl, run_takeDeferred hD, ?_⟩⟩
    exact ⟨_, results_tmp rfl _ _ _, rfl, HB.out⟩
  case stop =>
    intro D c pre W3 _ C
    exact (C.with 1 rfl).1.elim


end Go.Proofs.Yteellffkjjllgaa

namespace Go.Rc5

/-- The first sector that a span behind these may begin at. -/
def exI (lo : Int) : List SpI → Int
  | [] => lo
  | s :: r => exI (s.1 + s.2 + 1) r

def rightI (lo size : Int) : List SpI → Bool
  | [] => true
  | s :: r => (insB s size && decide (lo ≤ s.1)) && rightI (s.1 + s.2 + 1) size r

theorem exI_snoc (lo : Int) (l : List SpI) (s : SpI) : exI lo (l ++ [s]) = s.1 + s.2 + 1 := by
  induction l generalizing lo with
  | nil => rfl
  | cons t r ih => exact ih _

theorem rightI_append (lo size : Int) (l l' : List SpI) : rightI lo size (l ++ l') = (rightI lo size l && rightI (exI lo l) size l') := by
  induction l generalizing lo with
  | nil => rfl
  | cons t r ih => simp only [List.cons_append, rightI, exI, ih, Bool.and_assoc]

theorem rightI_snoc (lo size : Int) (l : List SpI) (s : SpI) : rightI lo size (l ++ [s]) = (rightI lo size l && (insB s size && decide (exI lo l ≤ s.1))) := by
  rw [rightI_append]
  simp [rightI]

theorem rightI_pre {l l' : List SpI} {size : Int} (h : l <+: l') (hf : rightI 0 size l = false) : rightI 0 size l' = false := by
  obtain ⟨r, rfl⟩ := h
  rw [rightI_append, hf, Bool.false_and]

theorem rightI_ins {lo size : Int} {l : List SpI} (h : rightI lo size l = true) : ∀ s ∈ l, insB s size = true := by
  induction l generalizing lo with
  | nil => intro s hs; cases hs
  | cons t r ih =>
    unfold rightI at h
    simp only [Bool.and_eq_true] at h
    intro s hs
    rcases List.mem_cons.1 hs with rfl | hs
    · exact h.1.1
    · exact ih h.2 s hs

theorem exI_bound {size : Int} {l : List SpI} (hs : size ≤ 8192) (h : ∀ s ∈ l, insB s size = true) : 0 ≤ exI 0 l ∧ exI 0 l ≤ 8193 := by
  rcases List.eq_nil_or_concat l with rfl | ⟨q, s, rfl⟩
  · exact ⟨by simp [exI], by simp [exI]⟩
  · rw [List.concat_eq_append] at h ⊢
    rw [exI_snoc]
    have := (insB_iff s size).1 (h s (by simp))
    omega

theorem rightI_bad {L : List SpI} {size : Int} (h : ∃ s ∈ L, insB s size = false) : rightI 0 size L = false := by
  cases e : rightI 0 size L with
  | false => rfl
  | true =>
    obtain ⟨s, hs, hf⟩ := h
    rw [rightI_ins e s hs] at hf
    cases hf

theorem rightI_good {N : List Sp} {n : Nat} (hs : ∀ s ∈ N, 1 ≤ s.2) (hf : ∀ s ∈ N, s.1 + s.2 ≤ n) : rightI 0 n (castS N) = true ↔ Ch 0 N := by
  have key : ∀ (lo : Nat) (N : List Sp), (∀ s ∈ N, 1 ≤ s.2) → (∀ s ∈ N, s.1 + s.2 ≤ n) → (rightI lo n (castS N) = true ↔ Ch lo N) := by
    intro lo N
    induction N generalizing lo with
    | nil => intro _ _; exact ⟨fun _ => trivial, fun _ => rfl⟩
    | cons s r ih =>
      intro hs hf
      have h1 := hs s List.mem_cons_self
      have h2 := hf s List.mem_cons_self
      have ih' := ih (s.1 + s.2 + 1) (fun t ht => hs t (List.mem_cons_of_mem _ ht)) (fun t ht => hf t (List.mem_cons_of_mem _ ht))
      have e : castS (s :: r) = ((s.1 : Int), (s.2 : Int)) :: castS r := rfl
      rw [e]
      unfold rightI Ch
      dsimp only
      have e2 : ((s.1 : Int) + (s.2 : Int) + 1) = ((s.1 + s.2 + 1 : Nat) : Int) := by omega
      rw [e2]
      have e3 : insB ((s.1 : Int), (s.2 : Int)) n = true := (insB_iff _ _).2 ⟨by show 1 ≤ (s.2 : Int); omega, by show 0 ≤ (s.1 : Int); omega, by show (s.1 : Int) < n; omega, by show (s.2 : Int) ≤ n - s.1; omega⟩
      rw [e3, Bool.true_and, Bool.and_eq_true, ih', decide_eq_true_eq]
      constructor
      · rintro ⟨a, b⟩
        exact ⟨by omega, h1, b⟩
      · rintro ⟨a, _, b⟩
        exact ⟨by omega, b⟩
  exact key 0 N hs hf

end Go.Rc5
namespace Go.Proofs.Yteellffkjjllgaa
open Go.RowKit Go.Rc5 Go.Shelf

attribute [local go_sem] Oper.semAt_some

set_option maxHeartbeats 1000000 in
theorem sized_yes (size : Int) (h1 : 1 ≤ size) (h2 : size ≤ 8192) (w : World) : Calls Try.prog 93 #[.int .i64 size] w fun e w' => e = .returned (.bool true) ∧ w' = w := by
  go_enter Try.func93, Try.ntmps93
  go_wp2
  go_ret
  exact ⟨rfl, rfl⟩

set_option maxHeartbeats 1000000 in
theorem sized_no (size : Int) (h : size < 1 ∨ 8192 < size) (w : World) : Calls Try.prog 93 #[.int .i64 size] w fun e w' => e = .returned (.bool false) ∧ w' = w := by
  by_cases h1 : size < 1
  · have h1' : ¬ 1 ≤ size := by omega
    clear h
    go_enter Try.func93, Try.ntmps93
    go_wp2
    go_ret
    exact ⟨rfl, rfl⟩
  · have h1' : 1 ≤ size := by omega
    have h2 : ¬ size ≤ 8192 := by omega
    clear h h1
    go_enter Try.func93, Try.ntmps93
    go_wp2
    go_ret
    exact ⟨rfl, rfl⟩

set_option maxHeartbeats 2000000 in
theorem within_any (s1 s2 size : Int) (h1 : 1 ≤ size) (h2 : size ≤ 8192) (hs : s1 ≤ 9223372036854775807) (w : World) :
    Calls Try.prog 95 #[.agg #[.int .i64 s1, .int .i64 s2], .int .i64 size] w fun e w' => e = .returned (.bool (insB (s1, s2) size)) ∧ Below w.heap.size w w' := by
  have HB := Lib.hid ((Below.refl _ w).alloc (Nat.le_refl _) (.cells #[.int .i64 s1, .int .i64 s2] 59))
  by_cases b1 : 1 ≤ s2
  · by_cases b2 : 0 ≤ s1
    · by_cases b3 : s2 ≤ size - s1
      · have HY : Hid (insB (s1, s2) size = true) := (insB_iff _ _).2 ⟨b1, b2, by show s1 < size; omega, b3⟩
        go_enter Try.func95, Try.ntmps95
        go_wp2
        go_ret
        exact ⟨by rw [HY.out]; rfl, HB.out⟩
      · have HY : Hid (insB (s1, s2) size = false) := by
          unfold Hid
          cases e : insB (s1, s2) size with
          | false => rfl
          | true => exact absurd ((insB_iff _ _).1 e).2.2.2 b3
        go_enter Try.func95, Try.ntmps95
        go_wp2
        go_ret
        exact ⟨by rw [HY.out]; simp; try omega, HB.out⟩
    · have HY : Hid (insB (s1, s2) size = false) := by
        unfold Hid
        cases e : insB (s1, s2) size with
        | false => rfl
        | true => exact absurd ((insB_iff _ _).1 e).2.1 b2
      go_enter Try.func95, Try.ntmps95
      go_wp2
      go_ret
      exact ⟨by rw [HY.out]; simp; try omega, HB.out⟩
  · have HY : Hid (insB (s1, s2) size = false) := by
      unfold Hid
      cases e : insB (s1, s2) size with
      | false => rfl
      | true => exact absurd ((insB_iff _ _).1 e).1 b1
    go_enter Try.func95, Try.ntmps95
    go_wp2
    go_ret
    exact ⟨by rw [HY.out]; simp; try omega, HB.out⟩


set_option maxRecDepth 100000 in
set_option maxHeartbeats 8000000 in
theorem right_any (L : List SpI) (a : Option Addr) (c len : Nat) (size : Int) (h1 : 1 ≤ size) (h2 : size ≤ 8192) (w : World) (h : SpansAt w a L) (hl : L.length = len) (hlen : len ≤ 100000) (hin : ∀ s ∈ L, In64 s.1) :
    Calls Try.prog 83 #[.slice a len c, .int .i64 size] w fun e w' => e = .returned (.bool (rightI 0 size L)) ∧ Below w.heap.size w w' := by
  have H0 := ((((Crew.start w).block #[.int .i64 size] 3).block #[.bool false] 4).block #[.int .i64 0] 3).block #[.slice a len c] 33
  have hbl := H0.bel
  have HG := Lib.hid (values_gives L a c len (w.heap.size + 1 + 1 + 1) _ (by have := (H0.one (i := 3) rfl).choose_spec.1.1; simpa only [World.size_alloc] using this) w.heap.size hbl.size (spans_reads h hbl) hl (by omega))
  simp only [World.size_alloc] at H0
  have HC : Hid (Crew (fun _ => False) w [blkT (w.heap.size + 1 + 1 + 1) #[.slice a len c] 33, withT (rightI 0 size [] = true) (groupT [blkT w.heap.size #[.int .i64 size] 3, blkT (w.heap.size + 1) #[.bool false] 4, blkT (w.heap.size + 1 + 1) #[.int .i64 0] 3])] ((((w.alloc (.cells #[.int .i64 size] 3)).alloc (.cells #[.bool false] 4)).alloc (.cells #[.int .i64 0] 3)).alloc (.cells #[.slice a len c] 33))) := by
    have h := Crew.grp (H0.pick [3, 0, 1, 2] (by decide) rfl)
    obtain ⟨O, ho, hset, _⟩ := h.one (i := 1) rfl
    exact hset _ _ (Turns.and rfl (Turns.same ho))
  have HM := Lib.hid hin
  clear h hl hin H0 hbl
  refine (callsIn_wide (n := 3)).1 (callsIn_of_wp_marks Try.func83 rfl trivial ?_ rfl)
  simp only [Try.ntmps83, List.size_toArray, List.length_cons, List.length_nil, Nat.reduceAdd, Nat.reduceSub, Array.replicate_succ, Array.replicate_zero, List.push_toArray, List.append_toArray, List.nil_append, List.cons_append]
  gi_wp2_with (first | (refine ⟨trivial, ?_⟩; gi_at_call 93; refine (callsIn_wide.2 (sized_yes size h1 h2 _)).mono ?_; rintro e w1 ⟨rfl, rfl⟩) | (refine ⟨trivial, ?_⟩; gi_at_call 94; refine (callsIn_wide.2 (values_any _ _ _ _)).mono ?_; rintro e w1 ⟨rfl, rfl⟩))
  refine wpIn_range (gf := 102) rfl eg38 HG.out (Nat.le_refl _) (fun _ _ => rfl) (fun _ => rfl)
    (fun pre => withT (rightI 0 size pre = true) (groupT [blkT w.heap.size #[.int .i64 size] 3, blkT (w.heap.size + 1) #[.bool false] 4, blkT (w.heap.size + 1 + 1) #[.int .i64 (exI 0 pre)] 3]))
    (fun cd pre => withT (cd = .ret ∧ rightI 0 size pre = false) (blkT (w.heap.size + 1) #[.bool false] 4))
    (fun pre x a' => exT fun Bx : Nat => withT (rightI 0 size pre = true ∧ a' = { tmps := #[.slice a len c, .int .i64 size, undef, .pointer (some ⟨w.heap.size, 0, none⟩), .pointer (some ⟨w.heap.size + 1, 0, none⟩), .pointer (some ⟨w.heap.size + 1 + 1, 0, none⟩), .pointer (some ⟨Bx, 0, none⟩), .int .i64 size, .bool true, .bool false, .slice a len c, .func (.func 102) #[] #[.pointer (some ⟨w.heap.size + 1 + 1 + 1, 0, none⟩)], .agg #[.int .i64 x.1, .int .i64 x.2], undef, undef, undef, undef, undef, undef, undef, undef, undef, undef, undef, undef, undef, undef, undef, undef], defers := [] })
      (groupT [blkT w.heap.size #[.int .i64 size] 3, blkT (w.heap.size + 1) #[.bool false] 4, blkT (w.heap.size + 1 + 1) #[.int .i64 (exI 0 pre)] 3, blkT Bx #[.int .i64 x.1, .int .i64 x.2] 59]))
    HC.out (by rintro OS _ ⟨_, rfl⟩ k (rfl | ⟨hk, _⟩); exact .inl rfl; exact .inr ⟨hk, fun h => h⟩) ?assign ?body ?done ?stop
  case assign =>
    rintro l' pre x O' W' K ⟨hno, hI⟩ hK
    have C := (groupT_open hI).block #[.int .i64 x.1, .int .i64 x.2] 59
    have HT := Lib.hid (groupT_shut C)
    have HK := Lib.hid hK
    have HNO := Lib.hid hno
    clear C hI hK hno
    dsimp only [encS]
    gi_wp2
    exact HK.out _ _ (Turns.ex W'.heap.size (Turns.and ⟨HNO.out, rfl⟩ HT.out))
  case body =>
    rintro l' pre x a' O' W' hpre ⟨Bx, ⟨hno, rfl⟩, hgrp⟩
    have C := groupT_open hgrp
    have HN := Lib.hid (rightI_snoc 0 size pre x)
    have HE := Lib.hid (exI_snoc 0 pre x)
    have hx1 : x.1 ≤ 9223372036854775807 := (HM.out x (hpre.subset (by simp))).2
    have hq := exI_bound h2 (rightI_ins hno)
    rw [hno, Bool.true_and] at HN
    obtain ⟨x1, x2⟩ := x
    dsimp only at hx1
    have cz := (C.at 0 rfl (j := 0) rfl).1
    have cx := (C.at 3 rfl (j := 0) rfl).1
    have cx1 := (C.at 3 rfl (j := 1) rfl).1
    have HC := Lib.hid C
    clear C hgrp hpre hno
    dsimp only at HN HE cx cx1
    generalize exI 0 pre = q at *
    have HI := Lib.hid (insB_iff (x1, x2) size)
    cases hb : insB (x1, x2) size with
    | false =>
      rw [hb, Bool.false_and] at HN
      gi_wp2_with (refine ⟨trivial, ?_⟩; gi_at_call 95; refine (CallsIn.inRound l' (callsIn_wide.2 (within_any x1 x2 size h1 h2 hx1 _))).mono ?_; rintro e w4 ⟨rfl, hb4⟩; rw [hb]; have C4 := HC.out.below hb4; have cr := (C4.at 1 rfl (j := 0) rfl).1; have fr := (C4.at 1 rfl (j := 0) rfl).2; have HC5 := Lib.hid ((C4.set 1 rfl 0 (.bool false)).pick [1] (by decide) rfl).turns; clear C4)
      exact Turns.and ⟨rfl, HN.out⟩ HC5.out
    | true =>
      have hI := HI.out.1 hb
      dsimp only at hI
      by_cases b2 : q ≤ x1
      · rw [hb, Bool.true_and, decide_eq_true b2] at HN
        have b2' : ¬ x1 < q := by omega
        gi_wp2_with (refine ⟨trivial, ?_⟩; gi_at_call 95; refine (CallsIn.inRound l' (callsIn_wide.2 (within_any x1 x2 size h1 h2 hx1 _))).mono ?_; rintro e w4 ⟨rfl, hb4⟩; rw [hb]; have C4 := HC.out.below hb4; have ce := (C4.at 2 rfl (j := 0) rfl).1; have fe := (C4.at 2 rfl (j := 0) rfl).2; have cx' := (C4.at 3 rfl (j := 0) rfl).1; have cx1' := (C4.at 3 rfl (j := 1) rfl).1; have HC4 := Lib.hid C4; clear C4 hb4 cx cx1 cz)
        have C5 := HC4.out.set 2 rfl 0 (.int .i64 (x1 + x2 + 1))
        refine Turns.and HN.out ?_
        rw [HE.out]
        exact groupT_shut (C5.pick [0, 1, 2] (by decide) rfl)
      · rw [hb, Bool.true_and, decide_eq_false b2] at HN
        have b2' : x1 < q := by omega
        gi_wp2_with (refine ⟨trivial, ?_⟩; gi_at_call 95; refine (CallsIn.inRound l' (callsIn_wide.2 (within_any x1 x2 size h1 h2 hx1 _))).mono ?_; rintro e w4 ⟨rfl, hb4⟩; rw [hb]; have C4 := HC.out.below hb4; have ce := (C4.at 2 rfl (j := 0) rfl).1; have cx' := (C4.at 3 rfl (j := 0) rfl).1; have cr := (C4.at 1 rfl (j := 0) rfl).1; have fr := (C4.at 1 rfl (j := 0) rfl).2; have HC5 := Lib.hid ((C4.set 1 rfl 0 (.bool false)).pick [1] (by decide) rfl).turns; clear C4 hb4 cx cx1 cz)
        exact Turns.and ⟨rfl, HN.out⟩ HC5.out
  case done =>
    intro D W3 C
    obtain ⟨hno, C⟩ := C.with 1 rfl
    have C := C.spill 1 rfl
    have cr := (C.at 4 rfl (j := 0) rfl).1
    have fr := (C.at 4 rfl (j := 0) rfl).2
    have C2 := C.set 4 rfl 0 (.bool true)
    have hD := C2.obj 2 rfl
    have cr2 := ((C2.objPut 2 rfl (.deferred none)).at 4 rfl (j := 0) rfl).1
    have HB := Lib.hid (C2.objPut 2 rfl (.deferred none)).bel
    have HSN := Lib.hid hno
    clear C C2 hno
    gi_wp2
    refine ⟨by simp, .inl ⟨_, _, rfl, run_takeDeferred hD, ?_⟩⟩
    exact ⟨_, results_cell1 rfl _ _ _ _ rfl Try.isAgg4 cr2, by rw [HSN.out]; rfl, HB.out⟩
  case stop =>
    intro D c pre W3 hpre C
    obtain ⟨⟨rfl, hy⟩, C⟩ := C.with 1 rfl
    have hD := C.obj 2 rfl
    have cr2 := ((C.objPut 2 rfl (.deferred none)).at 1 rfl (j := 0) rfl).1
    have HB := Lib.hid (C.objPut 2 rfl (.deferred none)).bel
    have HSN : Hid (rightI 0 size L = false) := rightI_pre hpre hy
    clear C hy hpre
    gi_wp2
    refine ⟨by simp, .inl ⟨_, _, rfl, run_takeDeferred hD, ?_⟩⟩
    exact ⟨_, results_cell1 rfl _ _ _ _ rfl Try.isAgg4 cr2, by rw [HSN.out]; rfl, HB.out⟩

set_option maxHeartbeats 2000000 in
theorem right_size (a : Option Addr) (c len : Nat) (size : Int) (h : size < 1 ∨ 8192 < size) (w : World) :
    Calls Try.prog 83 #[.slice a len c, .int .i64 size] w fun e w' => e = .returned (.bool false) ∧ Below w.heap.size w w' := by
  have HH := Lib.hid h
  have H0 := ((Crew.start w).block #[.int .i64 size] 3).block #[.bool false] 4
  rw [World.size_alloc] at H0
  have cr := (H0.at 1 rfl (j := 0) rfl).1
  have HB := Lib.hid H0.bel
  clear h H0
  go_enter Try.func83, Try.ntmps83
  go_wp2_with (go_at_call 93; refine (sized_no size HH.out _).mono ?_; rintro e w1 ⟨rfl, rfl⟩)
  refine bodyPost_ret (results_cell1 rfl _ _ _ _ rfl Try.isAgg4 cr) rfl ?_
  exact ⟨rfl, HB.out⟩

theorem pright_bad (L : List SpI) (a : Option Addr) (c len : Nat) (size : Int) (w : World) (h : SpansAt w a L) (hl : L.length = len) (hlen : len ≤ 100000) (hb : Bad L size) (hin : ∀ s ∈ L, In64 s.1) :
    Calls Try.prog 83 #[.slice a len c, .int .i64 size] w fun e w' => e = .returned (.bool false) ∧ Below w.heap.size w w' := by
  by_cases h1 : size < 1
  · exact right_size a c len size (.inl h1) w
  · by_cases h2 : 8192 < size
    · exact right_size a c len size (.inr h2) w
    · have hx : ∃ s ∈ L, insB s size = false := by
        rcases hb with h | h | h
        · exact absurd h h1
        · exact absurd h h2
        · exact h
      have := right_any L a c len size (by omega) (by omega) w h hl hlen hin
      rw [rightI_bad hx] at this
      exact this

theorem pright_good (L : List SpI) (N : List Sp) (n : Nat) (a : Option Addr) (c len : Nat) (w : World) (h : SpansAt w a L) (hl : L.length = len) (hlen : len ≤ 100000) (hg : Fits L N n) :
    Calls Try.prog 83 #[.slice a len c, .int .i64 n] w (YesIf (Ch 0 N) w) := by
  have hlo := hg.lo
  have hhi := hg.hi
  refine (right_any L a c len n (by omega) (by omega) w h hl hlen (fun s hs => ?_)).mono ?_
  · rw [hg.eq] at hs
    simp only [castS, List.mem_map] at hs
    obtain ⟨t, ht, rfl⟩ := hs
    have := hg.fit t ht
    exact ⟨by show -9223372036854775808 ≤ (t.1 : Int); omega, by show (t.1 : Int) ≤ 9223372036854775807; omega⟩
  · rintro e w' ⟨rfl, hb⟩
    exact ⟨_, rfl, by rw [hg.eq]; exact rightI_good hg.some hg.fit, hb⟩

end Go.Proofs.Yteellffkjjllgaa
