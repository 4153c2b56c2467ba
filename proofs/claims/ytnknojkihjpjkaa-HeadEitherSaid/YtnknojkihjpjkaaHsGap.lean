/-
  The iterators full and gaps of the program, and slices.Collect, over a row of spans: what they give, and the row that is made of it. Conditions: as each theorem states them.
-/
import Derived.Test.YtnknojkihjpjkaaHsIt
import Derived.Laws.OwnMore
import Derived.Maps.AppendAt
namespace Go.Rc5

/-- Where the next gap begins. -/
def nxI (next : Int) : List SpI → Int
  | [] => next
  | s :: r => nxI (s.1 + s.2) r

/-- The gaps ahead of the spans. -/
def gpI (next : Int) : List SpI → List SpI
  | [] => []
  | s :: r => (if next < s.1 then [(next, s.1 - next)] else []) ++ gpI (s.1 + s.2) r

def gapsI (l : List SpI) (size : Int) : List SpI := gpI 0 l ++ (if nxI 0 l < size then [(nxI 0 l, size - nxI 0 l)] else [])

theorem nxI_snoc (next : Int) (l : List SpI) (s : SpI) : nxI next (l ++ [s]) = s.1 + s.2 := by
  induction l generalizing next with
  | nil => rfl
  | cons t r ih => exact ih _

theorem gpI_snoc (next : Int) (l : List SpI) (s : SpI) : gpI next (l ++ [s]) = gpI next l ++ (if nxI next l < s.1 then [(nxI next l, s.1 - nxI next l)] else []) := by
  induction l generalizing next with
  | nil => by_cases h : next < s.1 <;> simp [gpI, nxI, h]
  | cons t r ih =>
    rw [List.cons_append]
    unfold gpI nxI
    rw [ih, List.append_assoc]

theorem gpI_append (next : Int) (l l' : List SpI) : gpI next (l ++ l') = gpI next l ++ gpI (nxI next l) l' := by
  induction l generalizing next with
  | nil => rfl
  | cons t r ih => simp [gpI, nxI, ih]

/-- The sectors lie in a small range. -/
def Small (l : List SpI) : Prop := ∀ s ∈ l, 0 ≤ s.1 ∧ 0 ≤ s.2 ∧ s.1 + s.2 ≤ 8192

theorem nxI_small {l : List SpI} (h : Small l) : 0 ≤ nxI 0 l ∧ nxI 0 l ≤ 8192 := by
  have : ∀ (next : Int), 0 ≤ next ∧ next ≤ 8192 → 0 ≤ nxI next l ∧ nxI next l ≤ 8192 := by
    induction l with
    | nil => exact fun _ hn => hn
    | cons t r ih =>
      intro next _
      have ht := h t List.mem_cons_self
      exact ih (fun s hs => h s (List.mem_cons_of_mem _ hs)) _ ⟨by omega, by omega⟩
  exact this 0 ⟨by omega, by omega⟩

theorem gpI_pre {l : List SpI} {pre : List SpI} {s : SpI} (h : pre ++ [s] <+: l) : gpI 0 (pre ++ [s]) <+: gpI 0 l := by
  obtain ⟨r, rfl⟩ := h
  rw [gpI_append 0 (pre ++ [s]) r]
  exact List.prefix_append _ _

theorem gpI_gaps (l : List SpI) (size : Int) : gpI 0 l <+: gapsI l size := List.prefix_append _ _

end Go.Rc5
namespace Go.Proofs.Ytnknojkihjpjkaa
open Go.RowKit Go.Rc5 Go.Shelf

attribute [local go_sem] Oper.semAt_some


theorem filter_pre (L : List SpI) (p : SpI → Bool) (k : Nat) (h : k < L.length) (hp : p (L.getD k (0, 0)) = true) : (L.take k).filter p ++ [L.getD k (0, 0)] <+: L.filter p := by
  have e : (L.take (k + 1)).filter p = (L.take k).filter p ++ [L.getD k (0, 0)] := by
    rw [take_snoc L k (0, 0) h, List.filter_append, List.filter_cons_of_pos hp, List.filter_nil]
  rw [← e]
  exact (List.take_prefix _ _).filter p

set_option maxRecDepth 100000 in
set_option maxHeartbeats 4000000 in
theorem full_gives (L : List SpI) (a : Option Addr) (c len B : Nat) (W0 : World) (hB : W0.heap[B]? = some (.cells #[.slice a len c] 23 (0, 0))) (n0 : Nat) (hn0 : n0 ≤ W0.heap.size) (h : ∀ W', (∀ x, a = some x → x.block < n0 → W'.heap[x.block]? = W0.heap[x.block]?) → SpansAt W' a L) (hl : L.length = len) (hlen : len ≤ 1000000) :
    Gives Try.prog 64 #[.pointer (some ⟨B, 0, none⟩)] encS (L.filter fun s => decide (1 ≤ s.2)) (rowR n0 a B) W0 := by
  refine ⟨?_, ?_⟩
  · rintro k (rfl | ⟨h, _⟩)
    · exact (Array.getElem?_eq_some_iff.1 hB).1
    · exact Nat.lt_of_lt_of_le h hn0
  intro l J Jx O W hsz hR hO h0 hY
  have cB : W.cell? ⟨B, 0, none⟩ = some (.slice a len c) := by
    have := (hR B (.inl rfl)).trans hB
    exact (Lib.cell_of_heap this 0).trans rfl
  have HS : Hid (∀ W', Moved O W W' → SpansAt W' a L) := fun W' hm => h W' fun x hx hlt => by
    have hr : rowR n0 a B x.block := .inr ⟨hlt, x, hx, rfl⟩
    exact (hm.block x.block (by omega) (hO _ hr)).trans (hR _ hr)
  have HY := Lib.hid hY
  have HL := Lib.hid hl
  have H0 := Lib.hid (Crew.only h0)
  clear h hB hR hO hY h0 hl
  refine (callsIn_wide (n := 3)).1 (callsIn_of_wp Try.func64 rfl trivial ?_ rfl)
  simp only [Try.ntmps64, List.size_toArray, List.length_cons, List.length_nil, Nat.reduceAdd, Nat.reduceSub, Array.replicate_succ, Array.replicate_zero, List.push_toArray, List.append_toArray, List.nil_append, List.cons_append]
  gi_wp2
  gi_loopw [7] (fun i wr => ∃ k : Nat, i = .int .i64 k ∧ k ≤ len ∧ Crew O W [J ((L.take k).filter fun s => decide (1 ≤ s.2))] wr) (fun i _ => len - (intOf i).toNat)
  case atStart => exact ⟨0, rfl, Nat.zero_le _, H0.out⟩
  case round =>
    obtain ⟨k, rfl, hk, C⟩ := hrel
    have HC := Lib.hid C
    clear C
    by_cases hlt : k < len
    · have hltI : (k : Int) < len := by omega
      obtain ⟨x, rfl, c0, c1⟩ := HS.out wr HC.out.mv k (by rw [HL.out]; exact hlt)
      have HP := Lib.hid (filter_pre L (fun s => decide (1 ≤ s.2)) k (by rw [HL.out]; exact hlt))
      have HT := Lib.hid (take_snoc L k (0, 0) (by rw [HL.out]; exact hlt))
      have HC1 := Lib.hid (HC.out.block #[.int .i64 (L.getD k (0, 0)).1, .int .i64 (L.getD k (0, 0)).2] 53)
      generalize L.getD k (0, 0) = s at *
      obtain ⟨s1, s2⟩ := s
      dsimp only at c0 c1 HC1 HP
      by_cases hm : 1 ≤ s2
      · have hp := HP.out (decide_eq_true hm)
        have HF : Hid ((L.take (k + 1)).filter (fun s => decide (1 ≤ s.2)) = (L.take k).filter (fun s => decide (1 ≤ s.2)) ++ [(s1, s2)]) := by
          unfold Hid
          rw [HT.out, List.filter_append, List.filter_cons_of_pos (by simpa using hm), List.filter_nil]
        obtain ⟨O', ho, hset, _⟩ := HC1.out.one (i := 0) rfl
        have HSET := Lib.hid hset
        obtain ⟨fn, tmps, assign, body, hy, hR⟩ := HY.out _ _ _ _ hp ho
        have HRR := Lib.hid hR
        have HPP := Lib.hid hp
        clear hR hset ho hp
        dsimp only [encS] at hy
        gi_wp2
        refine (show RoundIn Fence.wide _ _ _ _ _ _ _ _ _ from ⟨HRR.out.1, fun c cs _ => HRR.out.2 c cs (room_wide _)⟩).mono ?_
        rintro e W3 (⟨rfl, hT⟩ | ⟨rfl, hT⟩)
        · have C3 := Crew.first (l := [_]) (HSET.out _ _ hT)
          rw [← HF.out] at C3
          have HC3 := Lib.hid C3
          clear hT C3
          gi_wp2
          go_roundw
          case rel => exact ⟨k + 1, by simp, by omega, HC3.out⟩
          case measure => simp [intOf]; omega
        · have C3 := Crew.first (l := [_]) (HSET.out _ _ hT)
          have HC3 := Lib.hid C3
          clear hT C3
          gi_wp2
          refine bodyPost_ret (results_none rfl _ _ _) rfl ?_
          exact ⟨⟨_, rfl⟩, .inr ⟨_, HPP.out, HC3.out.turns⟩⟩
      · have HF : Hid ((L.take (k + 1)).filter (fun s => decide (1 ≤ s.2)) = (L.take k).filter (fun s => decide (1 ≤ s.2))) := by
          unfold Hid
          rw [HT.out, List.filter_append, List.filter_cons_of_neg (by simpa using hm), List.filter_nil, List.append_nil]
        have C3 := Crew.first (l := [_]) HC1.out
        rw [← HF.out] at C3
        have HC3 := Lib.hid C3
        clear C3
        gi_wp2
        try refine ⟨fun _ h => (by cases h), ?_⟩
        gi_wp2
        go_roundw
        case rel => exact ⟨k + 1, by simp, by omega, HC3.out⟩
        case measure => simp [intOf]; omega
    · have hltI : ¬ (k : Int) < len := by omega
      have e : L.take k = L := List.take_of_length_le (by have := HL.out; omega)
      rw [e] at HC
      gi_wp2
      go_end0
      exact ⟨⟨_, rfl⟩, .inl HC.out.turns⟩


end Go.Proofs.Ytnknojkihjpjkaa
