/-
  The iterators full and gaps of the program, and slices.Collect, over a row of spans: what they give, and the row that is made of it. Conditions: as each theorem states them.
-/
import Derived.Test.YtcknpmlekpgafaaSpIt
import Derived.Laws.OwnMore
import Derived.Maps.AppendAt
namespace Go.Rc5

/-- Where the next gap begins. -/
def nxI (next : Int) : List SpI → Int
  | [] => next
  | s :: r => nxI (s.1 + s.2) r

/-- The gaps ahead of the spans. -/
def gpI (next : Int) : List SpI → List SpI
  | [] => []
  | s :: r => (if next < s.1 then [(next, s.1 - next)] else []) ++ gpI (s.1 + s.2) r

def gapsI (l : List SpI) (size : Int) : List SpI := gpI 0 l ++ (if nxI 0 l < size then [(nxI 0 l, size - nxI 0 l)] else [])

theorem nxI_snoc (next : Int) (l : List SpI) (s : SpI) : nxI next (l ++ [s]) = s.1 + s.2 := by
  induction l generalizing next with
  | nil => rfl
  | cons t r ih => exact ih _

theorem gpI_snoc (next : Int) (l : List SpI) (s : SpI) : gpI next (l ++ [s]) = gpI next l ++ (if nxI next l < s.1 then [(nxI next l, s.1 - nxI next l)] else []) := by
  induction l generalizing next with
  | nil => by_cases h : next < s.1 <;> simp [gpI, nxI, h]
  | cons t r ih =>
    rw [List.cons_append]
    unfold gpI nxI
    rw [ih, List.append_assoc]

theorem gpI_append (next : Int) (l l' : List SpI) : gpI next (l ++ l') = gpI next l ++ gpI (nxI next l) l' := by
  induction l generalizing next with
  | nil => rfl
  | cons t r ih => simp [gpI, nxI, ih]

/-- The sectors lie in a small range. -/
def Small (l : List SpI) : Prop := ∀ s ∈ l, 0 ≤ s.1 ∧ 0 ≤ s.2 ∧ s.1 + s.2 ≤ 8192

theorem nxI_small {l : List SpI} (h : Small l) : 0 ≤ nxI 0 l ∧ nxI 0 l ≤ 8192 := by
  have : ∀ (next : Int), 0 ≤ next ∧ next ≤ 8192 → 0 ≤ nxI next l ∧ nxI next l ≤ 8192 := by
    induction l with
    | nil => exact fun _ hn => hn
    | cons t r ih =>
      intro next _
      have ht := h t List.mem_cons_self
      exact ih (fun s hs => h s (List.mem_cons_of_mem _ hs)) _ ⟨by omega, by omega⟩
  exact this 0 ⟨by omega, by omega⟩

theorem gpI_pre {l : List SpI} {pre : List SpI} {s : SpI} (h : pre ++ [s] <+: l) : gpI 0 (pre ++ [s]) <+: gpI 0 l := by
  obtain ⟨r, rfl⟩ := h
  rw [gpI_append 0 (pre ++ [s]) r]
  exact List.prefix_append _ _

theorem gpI_gaps (l : List SpI) (size : Int) : gpI 0 l <+: gapsI l size := List.prefix_append _ _

end Go.Rc5
namespace Go.Proofs.Ytcknpmlekpgafaa
open Go.RowKit Go.Rc5 Go.Shelf

attribute [local go_sem] Oper.semAt_some


theorem filter_pre (L : List SpI) (p : SpI → Bool) (k : Nat) (h : k < L.length) (hp : p (L.getD k (0, 0)) = true) : (L.take k).filter p ++ [L.getD k (0, 0)] <+: L.filter p := by
  have e : (L.take (k + 1)).filter p = (L.take k).filter p ++ [L.getD k (0, 0)] := by
    rw [take_snoc L k (0, 0) h, List.filter_append, List.filter_cons_of_pos hp, List.filter_nil]
  rw [← e]
  exact (List.take_prefix _ _).filter p

set_option maxRecDepth 100000 in
set_option maxHeartbeats 4000000 in
theorem full_gives (L : List SpI) (a : Option Addr) (c len B : Nat) (W0 : World) (hB : W0.heap[B]? = some (.cells #[.slice a len c] 22 (0, 0))) (n0 : Nat) (hn0 : n0 ≤ W0.heap.size) (h : ∀ W', (∀ x, a = some x → x.block < n0 → W'.heap[x.block]? = W0.heap[x.block]?) → SpansAt W' a L) (hl : L.length = len) (hlen : len ≤ 1000000) :
    Gives Try.prog 40 #[.pointer (some ⟨B, 0, none⟩)] encS (L.filter fun s => decide (1 ≤ s.2)) (rowR n0 a B) W0 := by
  refine ⟨?_, ?_⟩
  · rintro k (rfl | ⟨h, _⟩)
    · exact (Array.getElem?_eq_some_iff.1 hB).1
    · exact Nat.lt_of_lt_of_le h hn0
  intro l J Jx O W hsz hR hO h0 hY
  have cB : W.cell? ⟨B, 0, none⟩ = some (.slice a len c) := by
    have := (hR B (.inl rfl)).trans hB
    exact (Lib.cell_of_heap this 0).trans rfl
  have HS : Hid (∀ W', Moved O W W' → SpansAt W' a L) := fun W' hm => h W' fun x hx hlt => by
    have hr : rowR n0 a B x.block := .inr ⟨hlt, x, hx, rfl⟩
    exact (hm.block x.block (by omega) (hO _ hr)).trans (hR _ hr)
  have HY := Lib.hid hY
  have HL := Lib.hid hl
  have H0 := Lib.hid (Crew.only h0)
  clear h hB hR hO hY h0 hl
  refine (callsIn_wide (n := 3)).1 (callsIn_of_wp Try.func40 rfl trivial ?_ rfl)
  simp only [Try.ntmps40, List.size_toArray, List.length_cons, List.length_nil, Nat.reduceAdd, Nat.reduceSub, Array.replicate_succ, Array.replicate_zero, List.push_toArray, List.append_toArray, List.nil_append, List.cons_append]
  gi_wp2
  gi_loopw [7] (fun i wr => ∃ k : Nat, i = .int .i64 k ∧ k ≤ len ∧ Crew O W [J ((L.take k).filter fun s => decide (1 ≤ s.2))] wr) (fun i _ => len - (intOf i).toNat)
  case atStart => exact ⟨0, rfl, Nat.zero_le _, H0.out⟩
  case round =>
    obtain ⟨k, rfl, hk, C⟩ := hrel
    have HC := Lib.hid C
    clear C
    by_cases hlt : k < len
    · have hltI : (k : Int) < len := by omega
      obtain ⟨x, rfl, c0, c1⟩ := HS.out wr HC.out.mv k (by rw [HL.out]; exact hlt)
      have HP := Lib.hid (filter_pre L (fun s => decide (1 ≤ s.2)) k (by rw [HL.out]; exact hlt))
      have HT := Lib.hid (take_snoc L k (0, 0) (by rw [HL.out]; exact hlt))
      have HC1 := Lib.hid (HC.out.block #[.int .i64 (L.getD k (0, 0)).1, .int .i64 (L.getD k (0, 0)).2] 34)
      generalize L.getD k (0, 0) = s at *
      obtain ⟨s1, s2⟩ := s
      dsimp only at c0 c1 HC1 HP
      by_cases hm : 1 ≤ s2
      · have hp := HP.out (decide_eq_true hm)
        have HF : Hid ((L.take (k + 1)).filter (fun s => decide (1 ≤ s.2)) = (L.take k).filter (fun s => decide (1 ≤ s.2)) ++ [(s1, s2)]) := by
          unfold Hid
          rw [HT.out, List.filter_append, List.filter_cons_of_pos (by simpa using hm), List.filter_nil]
        obtain ⟨O', ho, hset, _⟩ := HC1.out.one (i := 0) rfl
        have HSET := Lib.hid hset
        obtain ⟨fn, tmps, assign, body, hy, hR⟩ := HY.out _ _ _ _ hp ho
        have HRR := Lib.hid hR
        have HPP := Lib.hid hp
        clear hR hset ho hp
        dsimp only [encS] at hy
        gi_wp2
        refine (show RoundIn Fence.wide _ _ _ _ _ _ _ _ _ from ⟨HRR.out.1, fun c cs _ => HRR.out.2 c cs (room_wide _)⟩).mono ?_
        rintro e W3 (⟨rfl, hT⟩ | ⟨rfl, hT⟩)
        · have C3 := Crew.first (l := [_]) (HSET.out _ _ hT)
          rw [← HF.out] at C3
          have HC3 := Lib.hid C3
          clear hT C3
          gi_wp2
          go_roundw
          case rel => exact ⟨k + 1, by simp, by omega, HC3.out⟩
          case measure => simp [intOf]; omega
        · have C3 := Crew.first (l := [_]) (HSET.out _ _ hT)
          have HC3 := Lib.hid C3
          clear hT C3
          gi_wp2
          refine bodyPost_ret (results_none rfl _ _ _) rfl ?_
          exact ⟨⟨_, rfl⟩, .inr ⟨_, HPP.out, HC3.out.turns⟩⟩
      · have HF : Hid ((L.take (k + 1)).filter (fun s => decide (1 ≤ s.2)) = (L.take k).filter (fun s => decide (1 ≤ s.2))) := by
          unfold Hid
          rw [HT.out, List.filter_append, List.filter_cons_of_neg (by simpa using hm), List.filter_nil, List.append_nil]
        have C3 := Crew.first (l := [_]) HC1.out
        rw [← HF.out] at C3
        have HC3 := Lib.hid C3
        clear C3
        gi_wp2
        try refine ⟨fun _ h => (by cases h), ?_⟩
        gi_wp2
        go_roundw
        case rel => exact ⟨k + 1, by simp, by omega, HC3.out⟩
        case measure => simp [intOf]; omega
    · have hltI : ¬ (k : Int) < len := by omega
      have e : L.take k = L := List.take_of_length_le (by have := HL.out; omega)
      rw [e] at HC
      gi_wp2
      go_end0
      exact ⟨⟨_, rfl⟩, .inl HC.out.turns⟩


set_option maxRecDepth 100000 in
set_option maxHeartbeats 8000000 in
theorem gaps_gives (xs : List SpI) (n : Nat) (hn : n ≤ 8192) (hx : Small xs) (g : Nat) (lb : Array Value) (R : Nat → Prop) (W0 : World) (hg : Gives Try.prog g lb encS xs R W0) (eg : ∀ args w, (callFunc g args).run Try.prog w = .ok (.enter g args) w)
    (W1 : World) (hs1 : W0.heap.size ≤ W1.heap.size) (hR1 : ∀ k, R k → W1.heap[k]? = W0.heap[k]?) (B B' : Nat) (hB : W1.heap[B]? = some (.cells #[.func (.func g) #[] lb] 38 (0, 0))) (hB' : W1.heap[B']? = some (.cells #[.int .i64 n] 3 (0, 0))) :
    Gives Try.prog 37 #[.pointer (some ⟨B, 0, none⟩), .pointer (some ⟨B', 0, none⟩)] encS (gapsI xs n) (fun k => k = B ∨ k = B' ∨ R k) W1 := by
  have hBl := (Array.getElem?_eq_some_iff.1 hB).1
  have hBl' := (Array.getElem?_eq_some_iff.1 hB').1
  have hg1 := hg.later hs1 hR1
  refine ⟨?_, ?_⟩
  · rintro k (rfl | rfl | h)
    · exact hBl
    · exact hBl'
    · exact hg1.1 k h
  intro l J Jx O W hsz hR hO h0 hY
  have CF : Hid (∀ W', Moved O W W' → W'.cell? ⟨B, 0, none⟩ = some (.func (.func g) #[] lb)) := fun W' hm => by
    have := (hm.block B (by omega) (hO B (.inl rfl))).trans ((hR B (.inl rfl)).trans hB)
    exact (Lib.cell_of_heap this 0).trans rfl
  have CB : Hid (∀ W', Moved O W W' → W'.cell? ⟨B', 0, none⟩ = some (.int .i64 n)) := fun W' hm => by
    have := (hm.block B' (by omega) (hO B' (.inr (.inl rfl)))).trans ((hR B' (.inr (.inl rfl))).trans hB')
    exact (Lib.cell_of_heap this 0).trans rfl
  have HRO : Hid (∀ k, R k → k < W.heap.size ∧ ¬ O k) := fun k hk => ⟨Nat.lt_of_lt_of_le (hg1.1 k hk) hsz, hO k (.inr (.inr hk))⟩
  have HRW : Hid (∀ k, R k → W.heap[k]? = W1.heap[k]?) := fun k hk => hR k (.inr (.inr hk))
  have HG := Lib.hid hg1
  have HSZ := Lib.hid hsz
  have HX := Lib.hid hx
  have HEG := Lib.hid eg
  have HY := Lib.hid hY
  have H0 := ((Crew.only h0).idle.block #[.func (.yield l) #[] #[]] 53).block #[.int .i64 0] 3
  rw [World.size_alloc] at H0
  have hCF := CF.out _ H0.mv
  replace H0 : Hid (Crew O W [noT, groupT [J [], blkT W.heap.size #[.func (.yield l) #[] #[]] 53, blkT (W.heap.size + 1) #[.int .i64 0] 3]] _) := (H0.pick [1, 0, 2, 3] (by decide) rfl).grp
  clear hg hg1 eg hsz hs1 hR1 hBl hBl' hx hB hB' hR hO hY h0 CF
  refine (callsIn_wide (n := 3)).1 (callsIn_of_wp_marks Try.func37 rfl trivial ?_ rfl)
  simp only [Try.ntmps37, List.size_toArray, List.length_cons, List.length_nil, Nat.reduceAdd, Nat.reduceSub, Array.replicate_succ, Array.replicate_zero, List.push_toArray, List.append_toArray, List.nil_append, List.cons_append]
  gi_wp2
  refine wpIn_range (gf := g) (lb := lb) rfl HEG.out HG.out (by have := H0.out.size; have := HSZ.out; omega) (fun k hk => (H0.out.mv.block k (HRO.out k hk).1 (HRO.out k hk).2).trans (HRW.out k hk)) (fun _ => rfl)
    (fun pre => groupT [J (gpI 0 pre), blkT W.heap.size #[.func (.yield l) #[] #[]] 53, blkT (W.heap.size + 1) #[.int .i64 (nxI 0 pre)] 3])
    (fun c _ => withT (c = .ret) (exT fun q : List SpI => withT (q <+: gapsI xs n) (Jx q)))
    (fun pre x a' => exT fun Bx : Nat => withT (a' = { tmps := #[.func (.yield l) #[] #[], .pointer (some ⟨B, 0, none⟩), .pointer (some ⟨B', 0, none⟩), .pointer (some ⟨W.heap.size, 0, none⟩), .pointer (some ⟨W.heap.size + 1, 0, none⟩), .pointer (some ⟨Bx, 0, none⟩), .func (.func g) #[] lb, .agg #[.int .i64 x.1, .int .i64 x.2], undef, undef, undef, undef, undef, undef, undef, undef, undef, undef, undef, undef, undef, undef, undef, undef, undef, undef, undef, undef, undef, undef, undef, undef, undef, undef, undef, undef, undef, undef], defers := [] })
      (groupT [J (gpI 0 pre), blkT W.heap.size #[.func (.yield l) #[] #[]] 53, blkT (W.heap.size + 1) #[.int .i64 (nxI 0 pre)] 3, blkT Bx #[.int .i64 x.1, .int .i64 x.2] 34]))
    H0.out (fun OS _ _ k hk => .inr (HRO.out k hk)) ?assign ?body ?done ?stop
  case assign =>
    intro l' pre x O' W' K hI hK
    have C := (groupT_open hI).block #[.int .i64 x.1, .int .i64 x.2] 34
    have HT := Lib.hid (groupT_shut C)
    have HK := Lib.hid hK
    clear C hI hK
    dsimp only [encS]
    gi_wp2
    exact HK.out _ _ (Turns.ex W'.heap.size (Turns.and rfl HT.out))
  case body =>
    rintro l' pre x a' O' W' hpre ⟨Bx, rfl, hgrp⟩
    have C := groupT_open hgrp
    have hsm : Small (pre ++ [x]) := fun s hs => HX.out s (hpre.subset hs)
    have hq := nxI_small (l := pre) (fun s hs => hsm s (List.mem_append_left _ hs))
    have hxx := hsm x (by simp)
    have HN := Lib.hid (nxI_snoc 0 pre x)
    have HP := Lib.hid (gpI_snoc 0 pre x)
    have HPP := Lib.hid ((gpI_pre hpre).trans (gpI_gaps xs n))
    obtain ⟨x1, x2⟩ := x
    have cy := (C.at 1 rfl (j := 0) rfl).1
    have cn := (C.at 2 rfl (j := 0) rfl).1
    have fn0 := (C.at 2 rfl (j := 0) rfl).2
    have cx := (C.at 3 rfl (j := 0) rfl).1
    have cx1 := (C.at 3 rfl (j := 1) rfl).1
    have HC := Lib.hid C
    clear C hgrp hsm hpre
    dsimp only at hxx HN HP cx cx1
    generalize nxI 0 pre = q at *
    by_cases hlt : q < x1
    · rw [if_pos hlt] at HP
      obtain ⟨OJ, ho, hset, _⟩ := HC.out.one (i := 0) rfl
      have HSET := Lib.hid hset
      obtain ⟨fn, tmps, assign, body, hy, hR⟩ := HY.out (gpI 0 pre) (q, x1 - q) OJ W' (by rw [← HP.out]; exact HPP.out) ho
      have HRR := Lib.hid hR
      clear hR hset ho
      dsimp only [encS] at hy
      gi_wp2
      refine (show RoundIn (Fence.wide.inRound l') _ _ _ _ _ _ _ _ _ from ⟨trivial, fun c cs _ => HRR.out.2 c cs (room_wide _)⟩).mono ?_
      rintro e W3 (⟨rfl, hT⟩ | ⟨rfl, hT⟩)
      · have C3 := HSET.out _ _ hT
        have cx' := (C3.at 3 rfl (j := 0) rfl).1
        have cx1' := (C3.at 3 rfl (j := 1) rfl).1
        have cn' := (C3.at 2 rfl (j := 0) rfl).1
        have fn' := (C3.at 2 rfl (j := 0) rfl).2
        have C4 := C3.set 2 rfl 0 (.int .i64 (x1 + x2))
        replace C4 : Crew O' W' [J (gpI 0 (pre ++ [(x1, x2)])), blkT W.heap.size #[.func (.yield l) #[] #[]] 53, blkT (W.heap.size + 1) #[.int .i64 (nxI 0 (pre ++ [(x1, x2)]))] 3] (W3.setCell ⟨W.heap.size + 1, 0, none⟩ (.int .i64 (x1 + x2))) := by
          rw [HN.out, HP.out]
          exact C4.pick [0, 1, 2] (by decide) rfl
        have HC4 := Lib.hid (groupT_shut C4)
        clear C3 C4 hT cx cx1 cy cn fn0
        gi_wp2
        exact HC4.out
      · have C3 := HSET.out _ _ hT
        have HC3 := Lib.hid (C3.pick [0] (by decide) rfl).turns
        clear C3 hT
        gi_wp2
        exact Turns.and rfl (Turns.ex _ (Turns.and (by rw [← HP.out]; exact HPP.out) HC3.out))
    · rw [if_neg hlt, List.append_nil] at HP
      have C4 := HC.out.set 2 rfl 0 (.int .i64 (x1 + x2))
      replace C4 : Crew O' W' [J (gpI 0 (pre ++ [(x1, x2)])), blkT W.heap.size #[.func (.yield l) #[] #[]] 53, blkT (W.heap.size + 1) #[.int .i64 (nxI 0 (pre ++ [(x1, x2)]))] 3] (W'.setCell ⟨W.heap.size + 1, 0, none⟩ (.int .i64 (x1 + x2))) := by
        rw [HN.out, HP.out]
        exact C4.pick [0, 1, 2] (by decide) rfl
      have HC4 := Lib.hid (groupT_shut C4)
      clear C4
      gi_wp2
      try refine ⟨fun _ h => (by cases h), ?_⟩
      gi_wp2
      exact HC4.out
  case done =>
    intro D W3 C
    have C := C.spill 1 rfl
    have hq := nxI_small HX.out
    have cy := (C.at 4 rfl (j := 0) rfl).1
    have cn := (C.at 5 rfl (j := 0) rfl).1
    have cz := CB.out _ C.mv
    have HC := Lib.hid C
    clear C
    have HGP : Hid (gapsI xs n = gpI 0 xs ++ (if nxI 0 xs < n then [(nxI 0 xs, n - nxI 0 xs)] else [])) := rfl
    generalize nxI 0 xs = q at *
    by_cases hlt : q < (n : Int)
    · rw [if_pos hlt] at HGP
      obtain ⟨OJ, ho, hset, _⟩ := HC.out.one (i := 3) rfl
      have HSET := Lib.hid hset
      obtain ⟨fn, tmps, assign, body, hy, hR⟩ := HY.out (gpI 0 xs) (q, n - q) OJ W3 (by rw [← HGP.out]; exact List.prefix_refl _) ho
      have HRR := Lib.hid hR
      clear hR hset ho
      dsimp only [encS] at hy
      gi_wp2
      refine (show RoundIn Fence.wide _ _ _ _ _ _ _ _ _ from ⟨trivial, fun c cs _ => HRR.out.2 c cs (room_wide _)⟩).mono ?_
      rintro e W4 (⟨rfl, hT⟩ | ⟨rfl, hT⟩)
      · have C3 := HSET.out _ _ hT
        rw [← HGP.out] at C3
        have hD := C3.obj 2 rfl
        have HC4 := Lib.hid ((C3.objPut 2 rfl (.deferred none)).pick [3] (by decide) rfl).turns
        clear C3 hT
        gi_wp2
        refine ⟨by simp, .inl ⟨_, _, rfl, run_takeDeferred hD, ?_⟩⟩
        exact ⟨_, results_none rfl _ _ _, ⟨_, rfl⟩, .inl HC4.out⟩
      · have C3 := HSET.out _ _ hT
        have hD := C3.obj 2 rfl
        have HC4 := Lib.hid ((C3.objPut 2 rfl (.deferred none)).pick [3] (by decide) rfl).turns
        clear C3 hT
        gi_wp2
        refine ⟨by simp, .inl ⟨_, _, rfl, run_takeDeferred hD, ?_⟩⟩
        exact ⟨_, results_none rfl _ _ _, ⟨_, rfl⟩, .inr ⟨_, by rw [HGP.out]; exact List.prefix_refl _, HC4.out⟩⟩
    · rw [if_neg hlt, List.append_nil] at HGP
      have hD := HC.out.obj 2 rfl
      have C4 := ((HC.out.objPut 2 rfl (.deferred none)).pick [3] (by decide) rfl).turns
      have HC4 : Hid (Turns (J (gapsI xs n)) O W (W3.putObj D (.deferred none))) := by
        unfold Hid
        rw [HGP.out]
        exact C4
      clear C4
      gi_wp2
      refine ⟨by simp, .inl ⟨_, _, rfl, run_takeDeferred hD, ?_⟩⟩
      exact ⟨_, results_none rfl _ _ _, ⟨_, rfl⟩, .inl HC4.out⟩
  case stop =>
    intro D c pre W3 _ C
    obtain ⟨rfl, C⟩ := C.with 1 rfl
    obtain ⟨q, C⟩ := C.ex 1 rfl
    obtain ⟨hq, C⟩ := C.with 1 rfl
    have hD := C.obj 2 rfl
    have HC4 := Lib.hid ((C.objPut 2 rfl (.deferred none)).pick [1] (by decide) rfl).turns
    clear C
    gi_wp2
    refine ⟨by simp, .inl ⟨_, _, rfl, run_takeDeferred hD, ?_⟩⟩
    exact ⟨_, results_none rfl _ _ _, ⟨_, rfl⟩, .inr ⟨_, hq, HC4.out⟩⟩


set_option maxRecDepth 100000 in
set_option maxHeartbeats 8000000 in
theorem appendseq_any (xs : List SpI) (hlen : xs.length ≤ 1000000) (g : Nat) (lb : Array Value) (R : Nat → Prop) (W0 : World) (hg : Gives Try.prog g lb encS xs R W0) (eg : ∀ args w, (callFunc g args).run Try.prog w = .ok (.enter g args) w)
    (w : World) (hs : W0.heap.size ≤ w.heap.size) (hR : ∀ k, R k → w.heap[k]? = W0.heap[k]?) :
    Calls Try.prog 36 #[.slice none 0 0, .func (.func g) #[] lb] w fun e w' => ∃ v, e = .returned v ∧ Fresh (spT v xs) w w' := by
  have HR : Hid (∀ k, R k → k < w.heap.size) := fun k hk => Nat.lt_of_lt_of_le (hg.1 k hk) hs
  have HG := Lib.hid (hg.later hs hR)
  have HEG := Lib.hid eg
  have H0 := ((Crew.start w).idle.block #[.slice none 0 0] 22).nil 34 2
  have HB : Hid (∀ k, R k → (w.alloc (.cells #[.slice none 0 0] 22)).heap[k]? = w.heap[k]?) := fun k hk => Below.heap_alloc _ _ _ (HR.out k hk)
  have H1 : Crew (fun _ => False) w [noT, exT fun v => groupT [blkT w.heap.size #[v] 22, spT v []]] (w.alloc (.cells #[.slice none 0 0] 22)) := by
    have h := Crew.grp (t := noT) (l := [blkT w.heap.size #[.slice none 0 0] 22, spT (.slice none 0 0) []]) H0
    obtain ⟨O, ho, hset, _⟩ := h.one (i := 1) rfl
    exact hset _ _ (Turns.ex (.slice none 0 0) (Turns.same ho))
  have HC := Lib.hid H1
  clear hg eg hs hR H0 H1
  refine (callsIn_wide (n := 3)).1 (callsIn_of_wp_marks Try.func36 rfl trivial ?_ rfl)
  simp only [Try.ntmps36, List.size_toArray, List.length_cons, List.length_nil, Nat.reduceAdd, Nat.reduceSub, Array.replicate_succ, Array.replicate_zero, List.push_toArray, List.append_toArray, List.nil_append, List.cons_append]
  gi_wp2
  refine wpIn_range (gf := g) (lb := lb) rfl HEG.out HG.out (by simp) HB.out (fun _ => rfl)
    (fun pre => exT fun v => groupT [blkT w.heap.size #[v] 22, spT v pre])
    (fun _ _ => withT False noT)
    (fun pre x a' => exT fun p : Value × Nat => withT (a' = { tmps := #[.slice none 0 0, .func (.func g) #[] lb, .pointer (some ⟨w.heap.size, 0, none⟩), undef, .slice none 0 0, .pointer (some ⟨p.2, 0, none⟩), .func (.func g) #[] lb, .agg #[.int .i64 x.1, .int .i64 x.2], undef, undef, undef, undef, undef], defers := [] })
      (groupT [blkT w.heap.size #[p.1] 22, spT p.1 pre, blkT p.2 #[.int .i64 x.1, .int .i64 x.2] 34]))
    HC.out (fun OS _ _ k hk => .inr ⟨HR.out k hk, fun h => h⟩) ?assign ?body ?done ?stop
  case assign =>
    rintro l' pre x O' W' K ⟨v, hI⟩ hK
    have C := (groupT_open hI).block #[.int .i64 x.1, .int .i64 x.2] 34
    have HT := Lib.hid (groupT_shut C)
    have HK := Lib.hid hK
    clear C hI hK
    dsimp only [encS]
    gi_wp2
    exact HK.out _ _ (Turns.ex (v, W'.heap.size) (Turns.and rfl HT.out))
  case body =>
    rintro l' pre x a' O' W' hpre ⟨⟨v, Bx⟩, rfl, hgrp⟩
    have C := groupT_open hgrp
    dsimp only at C ⊢
    have hq : pre.length + 1 ≤ 1000000 := by
      have := hpre.length_le
      simp at this
      omega
    obtain ⟨x1, x2⟩ := x
    obtain ⟨av, cv, rfl⟩ := C.slice 1 rfl
    have cs := (C.at 0 rfl (j := 0) rfl).1
    have cx := (C.at 2 rfl (j := 0) rfl).1
    have cx1 := (C.at 2 rfl (j := 1) rfl).1
    have HE := Lib.hid (C.below ((Below.refl _ W').alloc (Nat.le_refl _) (.cells #[.int .i64 x1, .int .i64 x2] 34)))
    clear C hgrp hpre
    gi_wp2_with (gi_at_builtin; refine wpListIn_append_crew HE.out 1 rfl rfl (.tmp 8) (.tmp 10) 22 rfl (.agg #[.int .i64 0, .int .i64 0]) 16 Try.underlying22 infoP rfl (by decide) rfl ⟨W'.heap.size, 0, none⟩ 1 1 [.int .i64 x1, .int .i64 x2] rfl rfl ?c1 ?c2 ?b1 ?b2 ?next)
    case c2 => exact ⟨rfl, rfl⟩
    case b1 => unfold maxLen; omega
    case b2 => omega
    case next =>
      intro v' w2 hF
      obtain ⟨av', cv', rfl⟩ := hF.slice 1 rfl
      have C2 : Crew O' W' [blkT w.heap.size #[.slice av pre.length cv] 22, spT (.slice av' (pre.length + 1) cv') (pre ++ [(x1, x2)])] w2 := by
        have := hF.pick [0, 1] (by decide) rfl
        show Crew O' W' [_, rowT 0 34 2 (.slice av' (pre.length + 1) cv') (pre ++ [(x1, x2)]).length (flatI (pre ++ [(x1, x2)]))] w2
        rw [flatI_append, List.length_append]
        exact this
      have cs' := (C2.at 0 rfl (j := 0) rfl).1
      have fs' := (C2.at 0 rfl (j := 0) rfl).2
      have HF2 := Lib.hid (groupT_shut (C2.set 0 rfl 0 (.slice av' (pre.length + 1) cv')))
      clear hF C2 HE
      gi_wp2
      exact Turns.ex (.slice av' (pre.length + 1) cv') HF2.out
  case done =>
    intro D W3 C
    obtain ⟨v, C⟩ := C.ex 1 rfl
    have C := C.spill 1 rfl
    obtain ⟨av, cv, rfl⟩ := C.slice 4 rfl
    have cs := (C.at 3 rfl (j := 0) rfl).1
    have hD := C.obj 2 rfl
    have HC4 := Lib.hid ((C.objPut 2 rfl (.deferred none)).pick [4] (by decide) rfl).fresh
    clear C
    gi_wp2
    refine ⟨by simp, .inl ⟨_, _, rfl, run_takeDeferred hD, ?_⟩⟩
    exact ⟨_, results_tmp rfl _ _ _, .slice av xs.length cv, rfl, HC4.out⟩
  case stop =>
    intro D c pre W3 _ C
    exact (C.with 1 rfl).1.elim

set_option maxHeartbeats 1000000 in
theorem collect_any (xs : List SpI) (hlen : xs.length ≤ 1000000) (g : Nat) (lb : Array Value) (R : Nat → Prop) (W0 : World) (hg : Gives Try.prog g lb encS xs R W0) (eg : ∀ args w, (callFunc g args).run Try.prog w = .ok (.enter g args) w)
    (w : World) (hs : W0.heap.size ≤ w.heap.size) (hR : ∀ k, R k → w.heap[k]? = W0.heap[k]?) :
    Calls Try.prog 24 #[.func (.func g) #[] lb] w fun e w' => ∃ v, e = .returned v ∧ Fresh (spT v xs) w w' := by
  have HM := Lib.hid (appendseq_any xs hlen g lb R W0 hg eg w hs hR)
  clear hg eg hs hR
  go_enter Try.func24, Try.ntmps24
  go_wp2_with (go_at_call 36; refine HM.out.mono ?_; rintro e w1 ⟨v, rfl, hF⟩)
  go_ret
  exact ⟨v, rfl, hF⟩

end Go.Proofs.Ytcknpmlekpgafaa
