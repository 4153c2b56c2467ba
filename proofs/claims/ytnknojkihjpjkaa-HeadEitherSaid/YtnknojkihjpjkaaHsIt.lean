/-
  The iterators of the program over a row of spans: slices.Values and full: what they give, one behind the other. Conditions: as each theorem states them.
-/
import Derived.Test.YtnknojkihjpjkaaIter
import Derived.Test.YtnknojkihjpjkaaHsNorm
import Derived.Shelf.Abstract
import Derived.Shelf.RegionOpen
import Derived.OwnWalkIn
import Derived.TacticsInMore
import Derived.LoopNIn
import Derived.LoopIn
namespace Go.Proofs.Ytnknojkihjpjkaa
open Go.RowKit Go.Rc5 Go.Shelf

attribute [local go_sem] Oper.semAt_some

/-- A span as yield's argument. -/
def encS (s : SpI) : Array Value := #[.agg #[.int .i64 s.1, .int .i64 s.2]]

theorem Crew.turns {U : Nat → Prop} {w0 w : World} {t : Thing 0} (h : Crew U w0 [t] w) : Turns t U w0 w := by
  obtain ⟨O, ho, _, _, hU⟩ := h.one (i := 0) rfl
  exact ⟨O, ho, h.mv, hU⟩

theorem add_block (x : Addr) (n : Nat) : (x.add n).block = x.block := by unfold Addr.add; split <;> rfl

theorem SpansAt.same {w w' : World} {a : Option Addr} {L : List SpI} (h : SpansAt w a L) (hb : ∀ x, a = some x → x.block < w.heap.size → w'.heap[x.block]? = w.heap[x.block]?) : SpansAt w' a L := by
  intro i hi
  obtain ⟨x, rfl, c0, c1⟩ := h i hi
  have hlt : x.block < w.heap.size := by
    have := World.block_lt_of_cell? w _ c0
    rwa [add_block] at this
  have e := hb x rfl hlt
  refine ⟨x, rfl, ?_, ?_⟩
  · rw [← c0]
    exact World.cell?_of_block (by rw [add_block]; exact e)
  · rw [← c1]
    exact World.cell?_of_block (by show w'.heap[(x.add (i * 2)).block]? = w.heap[(x.add (i * 2)).block]?; rw [add_block]; exact e)

set_option maxHeartbeats 1000000 in
theorem values_any (a : Option Addr) (len c : Nat) (w : World) :
    Calls Try.prog 49 #[.slice a len c] w fun e w' => e = .returned (.func (.func 63) #[] #[.pointer (some ⟨w.heap.size, 0, none⟩)]) ∧ w' = w.alloc (.cells #[.slice a len c] 23) := by
  go_enter Try.func49, Try.ntmps49
  go_wp2
  go_ret
  exact ⟨rfl, rfl⟩

set_option maxHeartbeats 1000000 in
theorem full_any (a : Option Addr) (len c : Nat) (w : World) :
    Calls Try.prog 52 #[.slice a len c] w fun e w' => e = .returned (.func (.func 64) #[] #[.pointer (some ⟨w.heap.size, 0, none⟩)]) ∧ w' = w.alloc (.cells #[.slice a len c] 23) := by
  go_enter Try.func52, Try.ntmps52
  go_wp2
  go_ret
  exact ⟨rfl, rfl⟩

/-- The blocks that an iterator over a row reads. -/
def rowR (n0 : Nat) (a : Option Addr) (B : Nat) (k : Nat) : Prop := k = B ∨ (k < n0 ∧ ∃ x, a = some x ∧ k = x.block)

theorem spans_reads {w W0 : World} {a : Option Addr} {L : List SpI} (h : SpansAt w a L) (hb : Below w.heap.size w W0) : ∀ W', (∀ x, a = some x → x.block < w.heap.size → W'.heap[x.block]? = W0.heap[x.block]?) → SpansAt W' a L :=
  fun _ hk => SpansAt.same h fun x hx hlt => (hk x hx hlt).trans (hb.block _ hlt)

theorem take_pre (L : List SpI) (k : Nat) (h : k < L.length) : L.take k ++ [L.getD k (0, 0)] <+: L := by
  rw [← take_snoc L k (0, 0) h]
  exact List.take_prefix _ _

set_option maxRecDepth 100000 in
set_option maxHeartbeats 4000000 in
theorem values_gives (L : List SpI) (a : Option Addr) (c len B : Nat) (W0 : World) (hB : W0.heap[B]? = some (.cells #[.slice a len c] 23 (0, 0))) (n0 : Nat) (hn0 : n0 ≤ W0.heap.size) (h : ∀ W', (∀ x, a = some x → x.block < n0 → W'.heap[x.block]? = W0.heap[x.block]?) → SpansAt W' a L) (hl : L.length = len) (hlen : len ≤ 1000000) :
    Gives Try.prog 63 #[.pointer (some ⟨B, 0, none⟩)] encS L (rowR n0 a B) W0 := by
  refine ⟨?_, ?_⟩
  · rintro k (rfl | ⟨h, _⟩)
    · exact (Array.getElem?_eq_some_iff.1 hB).1
    · exact Nat.lt_of_lt_of_le h hn0
  intro l J Jx O W hsz hR hO h0 hY
  have cB : W.cell? ⟨B, 0, none⟩ = some (.slice a len c) := by
    have := (hR B (.inl rfl)).trans hB
    exact (Lib.cell_of_heap this 0).trans rfl
  have HS : Hid (∀ W', Moved O W W' → SpansAt W' a L) := fun W' hm => h W' fun x hx hlt => by
    have hr : rowR n0 a B x.block := .inr ⟨hlt, x, hx, rfl⟩
    exact (hm.block x.block (by omega) (hO _ hr)).trans (hR _ hr)
  have HY := Lib.hid hY
  have HL := Lib.hid hl
  have H0 := Lib.hid (Crew.only h0)
  clear h hB hR hO hY h0 hl
  refine (callsIn_wide (n := 3)).1 (callsIn_of_wp Try.func63 rfl trivial ?_ rfl)
  simp only [Try.ntmps63, List.size_toArray, List.length_cons, List.length_nil, Nat.reduceAdd, Nat.reduceSub, Array.replicate_succ, Array.replicate_zero, List.push_toArray, List.append_toArray, List.nil_append, List.cons_append]
  gi_wp2
  gi_loopw [7] (fun i wr => ∃ k : Nat, i = .int .i64 k ∧ k ≤ len ∧ Crew O W [J (L.take k)] wr) (fun i _ => len - (intOf i).toNat)
  case atStart => exact ⟨0, rfl, Nat.zero_le _, H0.out⟩
  case round =>
    obtain ⟨k, rfl, hk, C⟩ := hrel
    have HC := Lib.hid C
    clear C
    by_cases hlt : k < len
    · have hltI : (k : Int) < len := by omega
      obtain ⟨x, rfl, c0, c1⟩ := HS.out wr HC.out.mv k (by rw [HL.out]; exact hlt)
      have HP := Lib.hid (take_pre L k (by rw [HL.out]; exact hlt))
      have HT := Lib.hid (take_snoc L k (0, 0) (by rw [HL.out]; exact hlt))
      have HC1 := Lib.hid (HC.out.block #[.int .i64 (L.getD k (0, 0)).1, .int .i64 (L.getD k (0, 0)).2] 53)
      generalize L.getD k (0, 0) = s at *
      obtain ⟨s1, s2⟩ := s
      dsimp only at c0 c1 HC1
      obtain ⟨O', ho, hset, _⟩ := HC1.out.one (i := 0) rfl
      have HSET := Lib.hid hset
      obtain ⟨fn, tmps, assign, body, hy, hR⟩ := HY.out _ _ _ _ HP.out ho
      have HRR := Lib.hid hR
      clear hR hset ho
      dsimp only [encS] at hy
      gi_wp2
      refine (show RoundIn Fence.wide _ _ _ _ _ _ _ _ _ from ⟨HRR.out.1, fun c cs _ => HRR.out.2 c cs (room_wide _)⟩).mono ?_
      rintro e W3 (⟨rfl, hT⟩ | ⟨rfl, hT⟩)
      · have C3 := Crew.first (l := [_]) (HSET.out _ _ hT)
        rw [← HT.out] at C3
        have HC3 := Lib.hid C3
        clear hT C3
        gi_wp2
        go_roundw
        case rel => exact ⟨k + 1, by simp, by omega, HC3.out⟩
        case measure => simp [intOf]; omega
      · have C3 := Crew.first (l := [_]) (HSET.out _ _ hT)
        have HC3 := Lib.hid C3
        clear hT C3
        gi_wp2
        refine bodyPost_ret (results_none rfl _ _ _) rfl ?_
        exact ⟨⟨_, rfl⟩, .inr ⟨_, HP.out, HC3.out.turns⟩⟩
    · have hltI : ¬ (k : Int) < len := by omega
      have e : L.take k = L := List.take_of_length_le (by have := HL.out; omega)
      rw [e] at HC
      gi_wp2
      go_end0
      exact ⟨⟨_, rfl⟩, .inl HC.out.turns⟩

end Go.Proofs.Ytnknojkihjpjkaa
