/-
  What the program's sized, within and Right answer. Conditions: as each theorem states them.
-/
import Derived.Test.YtnknojkihjpjkaaHsTot
namespace Go.Rc5

/-- The first sector that a span behind these may begin at. -/
def exI (lo : Int) : List SpI → Int
  | [] => lo
  | s :: r => exI (s.1 + s.2 + 1) r

def rightI (lo size : Int) : List SpI → Bool
  | [] => true
  | s :: r => (insB s size && decide (lo ≤ s.1)) && rightI (s.1 + s.2 + 1) size r

theorem exI_snoc (lo : Int) (l : List SpI) (s : SpI) : exI lo (l ++ [s]) = s.1 + s.2 + 1 := by
  induction l generalizing lo with
  | nil => rfl
  | cons t r ih => exact ih _

theorem rightI_append (lo size : Int) (l l' : List SpI) : rightI lo size (l ++ l') = (rightI lo size l && rightI (exI lo l) size l') := by
  induction l generalizing lo with
  | nil => rfl
  | cons t r ih => simp only [List.cons_append, rightI, exI, ih, Bool.and_assoc]

theorem rightI_snoc (lo size : Int) (l : List SpI) (s : SpI) : rightI lo size (l ++ [s]) = (rightI lo size l && (insB s size && decide (exI lo l ≤ s.1))) := by
  rw [rightI_append]
  simp [rightI]

theorem rightI_pre {l l' : List SpI} {size : Int} (h : l <+: l') (hf : rightI 0 size l = false) : rightI 0 size l' = false := by
  obtain ⟨r, rfl⟩ := h
  rw [rightI_append, hf, Bool.false_and]

theorem rightI_ins {lo size : Int} {l : List SpI} (h : rightI lo size l = true) : ∀ s ∈ l, insB s size = true := by
  induction l generalizing lo with
  | nil => intro s hs; cases hs
  | cons t r ih =>
    unfold rightI at h
    simp only [Bool.and_eq_true] at h
    intro s hs
    rcases List.mem_cons.1 hs with rfl | hs
    · exact h.1.1
    · exact ih h.2 s hs

theorem exI_bound {size : Int} {l : List SpI} (hs : size ≤ 8192) (h : ∀ s ∈ l, insB s size = true) : 0 ≤ exI 0 l ∧ exI 0 l ≤ 8193 := by
  rcases List.eq_nil_or_concat l with rfl | ⟨q, s, rfl⟩
  · exact ⟨by simp [exI], by simp [exI]⟩
  · rw [List.concat_eq_append] at h ⊢
    rw [exI_snoc]
    have := (insB_iff s size).1 (h s (by simp))
    omega

theorem rightI_bad {L : List SpI} {size : Int} (h : ∃ s ∈ L, insB s size = false) : rightI 0 size L = false := by
  cases e : rightI 0 size L with
  | false => rfl
  | true =>
    obtain ⟨s, hs, hf⟩ := h
    rw [rightI_ins e s hs] at hf
    cases hf

theorem rightI_good {N : List Sp} {n : Nat} (hs : ∀ s ∈ N, 1 ≤ s.2) (hf : ∀ s ∈ N, s.1 + s.2 ≤ n) : rightI 0 n (castS N) = true ↔ Ch 0 N := by
  have key : ∀ (lo : Nat) (N : List Sp), (∀ s ∈ N, 1 ≤ s.2) → (∀ s ∈ N, s.1 + s.2 ≤ n) → (rightI lo n (castS N) = true ↔ Ch lo N) := by
    intro lo N
    induction N generalizing lo with
    | nil => intro _ _; exact ⟨fun _ => trivial, fun _ => rfl⟩
    | cons s r ih =>
      intro hs hf
      have h1 := hs s List.mem_cons_self
      have h2 := hf s List.mem_cons_self
      have ih' := ih (s.1 + s.2 + 1) (fun t ht => hs t (List.mem_cons_of_mem _ ht)) (fun t ht => hf t (List.mem_cons_of_mem _ ht))
      have e : castS (s :: r) = ((s.1 : Int), (s.2 : Int)) :: castS r := rfl
      rw [e]
      unfold rightI Ch
      dsimp only
      have e2 : ((s.1 : Int) + (s.2 : Int) + 1) = ((s.1 + s.2 + 1 : Nat) : Int) := by omega
      rw [e2]
      have e3 : insB ((s.1 : Int), (s.2 : Int)) n = true := (insB_iff _ _).2 ⟨by show 1 ≤ (s.2 : Int); omega, by show 0 ≤ (s.1 : Int); omega, by show (s.1 : Int) < n; omega, by show (s.2 : Int) ≤ n - s.1; omega⟩
      rw [e3, Bool.true_and, Bool.and_eq_true, ih', decide_eq_true_eq]
      constructor
      · rintro ⟨a, b⟩
        exact ⟨by omega, h1, b⟩
      · rintro ⟨a, _, b⟩
        exact ⟨by omega, b⟩
  exact key 0 N hs hf

end Go.Rc5
namespace Go.Proofs.Ytnknojkihjpjkaa
open Go.RowKit Go.Rc5 Go.Shelf

attribute [local go_sem] Oper.semAt_some

set_option maxHeartbeats 1000000 in
theorem sized_yes (size : Int) (h1 : 1 ≤ size) (h2 : size ≤ 8192) (w : World) : Calls Try.prog 48 #[.int .i64 size] w fun e w' => e = .returned (.bool true) ∧ w' = w := by
  go_enter Try.func48, Try.ntmps48
  go_wp2
  go_ret
  exact ⟨rfl, rfl⟩

set_option maxHeartbeats 1000000 in
theorem sized_no (size : Int) (h : size < 1 ∨ 8192 < size) (w : World) : Calls Try.prog 48 #[.int .i64 size] w fun e w' => e = .returned (.bool false) ∧ w' = w := by
  by_cases h1 : size < 1
  · have h1' : ¬ 1 ≤ size := by omega
    clear h
    go_enter Try.func48, Try.ntmps48
    go_wp2
    go_ret
    exact ⟨rfl, rfl⟩
  · have h1' : 1 ≤ size := by omega
    have h2 : ¬ size ≤ 8192 := by omega
    clear h h1
    go_enter Try.func48, Try.ntmps48
    go_wp2
    go_ret
    exact ⟨rfl, rfl⟩

set_option maxHeartbeats 2000000 in
theorem within_any (s1 s2 size : Int) (h1 : 1 ≤ size) (h2 : size ≤ 8192) (hs : s1 ≤ 9223372036854775807) (w : World) :
    Calls Try.prog 50 #[.agg #[.int .i64 s1, .int .i64 s2], .int .i64 size] w fun e w' => e = .returned (.bool (insB (s1, s2) size)) ∧ Below w.heap.size w w' := by
  have HB := Lib.hid ((Below.refl _ w).alloc (Nat.le_refl _) (.cells #[.int .i64 s1, .int .i64 s2] 53))
  by_cases b1 : 1 ≤ s2
  · by_cases b2 : 0 ≤ s1
    · by_cases b3 : s2 ≤ size - s1
      · have HY : Hid (insB (s1, s2) size = true) := (insB_iff _ _).2 ⟨b1, b2, by show s1 < size; omega, b3⟩
        go_enter Try.func50, Try.ntmps50
        go_wp2
        go_ret
        exact ⟨by rw [HY.out]; rfl, HB.out⟩
      · have HY : Hid (insB (s1, s2) size = false) := by
          unfold Hid
          cases e : insB (s1, s2) size with
          | false => rfl
          | true => exact absurd ((insB_iff _ _).1 e).2.2.2 b3
        go_enter Try.func50, Try.ntmps50
        go_wp2
        go_ret
        exact ⟨by rw [HY.out]; simp; try omega, HB.out⟩
    · have HY : Hid (insB (s1, s2) size = false) := by
        unfold Hid
        cases e : insB (s1, s2) size with
        | false => rfl
        | true => exact absurd ((insB_iff _ _).1 e).2.1 b2
      go_enter Try.func50, Try.ntmps50
      go_wp2
      go_ret
      exact ⟨by rw [HY.out]; simp; try omega, HB.out⟩
  · have HY : Hid (insB (s1, s2) size = false) := by
      unfold Hid
      cases e : insB (s1, s2) size with
      | false => rfl
      | true => exact absurd ((insB_iff _ _).1 e).1 b1
    go_enter Try.func50, Try.ntmps50
    go_wp2
    go_ret
    exact ⟨by rw [HY.out]; simp; try omega, HB.out⟩


set_option maxRecDepth 100000 in
set_option maxHeartbeats 8000000 in
theorem right_any (L : List SpI) (a : Option Addr) (c len : Nat) (size : Int) (h1 : 1 ≤ size) (h2 : size ≤ 8192) (w : World) (h : SpansAt w a L) (hl : L.length = len) (hlen : len ≤ 100000) (hin : ∀ s ∈ L, In64 s.1) :
    Calls Try.prog 28 #[.slice a len c, .int .i64 size] w fun e w' => e = .returned (.bool (rightI 0 size L)) ∧ Below w.heap.size w w' := by
  have H0 := ((((Crew.start w).block #[.int .i64 size] 3).block #[.bool false] 4).block #[.int .i64 0] 3).block #[.slice a len c] 23
  have hbl := H0.bel
  have HG := Lib.hid (values_gives L a c len (w.heap.size + 1 + 1 + 1) _ (by have := (H0.one (i := 3) rfl).choose_spec.1.1; simpa only [World.size_alloc] using this) w.heap.size hbl.size (spans_reads h hbl) hl (by omega))
  simp only [World.size_alloc] at H0
  have HC : Hid (Crew (fun _ => False) w [blkT (w.heap.size + 1 + 1 + 1) #[.slice a len c] 23, withT (rightI 0 size [] = true) (groupT [blkT w.heap.size #[.int .i64 size] 3, blkT (w.heap.size + 1) #[.bool false] 4, blkT (w.heap.size + 1 + 1) #[.int .i64 0] 3])] ((((w.alloc (.cells #[.int .i64 size] 3)).alloc (.cells #[.bool false] 4)).alloc (.cells #[.int .i64 0] 3)).alloc (.cells #[.slice a len c] 23))) := by
    have h := Crew.grp (H0.pick [3, 0, 1, 2] (by decide) rfl)
    obtain ⟨O, ho, hset, _⟩ := h.one (i := 1) rfl
    exact hset _ _ (Turns.and rfl (Turns.same ho))
  have HM := Lib.hid hin
  clear h hl hin H0 hbl
  refine (callsIn_wide (n := 3)).1 (callsIn_of_wp_marks Try.func28 rfl trivial ?_ rfl)
  simp only [Try.ntmps28, List.size_toArray, List.length_cons, List.length_nil, Nat.reduceAdd, Nat.reduceSub, Array.replicate_succ, Array.replicate_zero, List.push_toArray, List.append_toArray, List.nil_append, List.cons_append]
  gi_wp2_with (first | (refine ⟨trivial, ?_⟩; gi_at_call 48; refine (callsIn_wide.2 (sized_yes size h1 h2 _)).mono ?_; rintro e w1 ⟨rfl, rfl⟩) | (refine ⟨trivial, ?_⟩; gi_at_call 49; refine (callsIn_wide.2 (values_any _ _ _ _)).mono ?_; rintro e w1 ⟨rfl, rfl⟩))
  refine wpIn_range (gf := 63) rfl eg38 HG.out (Nat.le_refl _) (fun _ _ => rfl) (fun _ => rfl)
    (fun pre => withT (rightI 0 size pre = true) (groupT [blkT w.heap.size #[.int .i64 size] 3, blkT (w.heap.size + 1) #[.bool false] 4, blkT (w.heap.size + 1 + 1) #[.int .i64 (exI 0 pre)] 3]))
    (fun cd pre => withT (cd = .ret ∧ rightI 0 size pre = false) (blkT (w.heap.size + 1) #[.bool false] 4))
    (fun pre x a' => exT fun Bx : Nat => withT (rightI 0 size pre = true ∧ a' = { tmps := #[.slice a len c, .int .i64 size, undef, .pointer (some ⟨w.heap.size, 0, none⟩), .pointer (some ⟨w.heap.size + 1, 0, none⟩), .pointer (some ⟨w.heap.size + 1 + 1, 0, none⟩), .pointer (some ⟨Bx, 0, none⟩), .int .i64 size, .bool true, .bool false, .slice a len c, .func (.func 63) #[] #[.pointer (some ⟨w.heap.size + 1 + 1 + 1, 0, none⟩)], .agg #[.int .i64 x.1, .int .i64 x.2], undef, undef, undef, undef, undef, undef, undef, undef, undef, undef, undef, undef, undef, undef, undef, undef], defers := [] })
      (groupT [blkT w.heap.size #[.int .i64 size] 3, blkT (w.heap.size + 1) #[.bool false] 4, blkT (w.heap.size + 1 + 1) #[.int .i64 (exI 0 pre)] 3, blkT Bx #[.int .i64 x.1, .int .i64 x.2] 53]))
    HC.out (by rintro OS _ ⟨_, rfl⟩ k (rfl | ⟨hk, _⟩); exact .inl rfl; exact .inr ⟨hk, fun h => h⟩) ?assign ?body ?done ?stop
  case assign =>
    rintro l' pre x O' W' K ⟨hno, hI⟩ hK
    have C := (groupT_open hI).block #[.int .i64 x.1, .int .i64 x.2] 53
    have HT := Lib.hid (groupT_shut C)
    have HK := Lib.hid hK
    have HNO := Lib.hid hno
    clear C hI hK hno
    dsimp only [encS]
    gi_wp2
    exact HK.out _ _ (Turns.ex W'.heap.size (Turns.and ⟨HNO.out, rfl⟩ HT.out))
  case body =>
    rintro l' pre x a' O' W' hpre ⟨Bx, ⟨hno, rfl⟩, hgrp⟩
    have C := groupT_open hgrp
    have HN := Lib.hid (rightI_snoc 0 size pre x)
    have HE := Lib.hid (exI_snoc 0 pre x)
    have hx1 : x.1 ≤ 9223372036854775807 := (HM.out x (hpre.subset (by simp))).2
    have hq := exI_bound h2 (rightI_ins hno)
    rw [hno, Bool.true_and] at HN
    obtain ⟨x1, x2⟩ := x
    dsimp only at hx1
    have cz := (C.at 0 rfl (j := 0) rfl).1
    have cx := (C.at 3 rfl (j := 0) rfl).1
    have cx1 := (C.at 3 rfl (j := 1) rfl).1
    have HC := Lib.hid C
    clear C hgrp hpre hno
    dsimp only at HN HE cx cx1
    generalize exI 0 pre = q at *
    have HI := Lib.hid (insB_iff (x1, x2) size)
    cases hb : insB (x1, x2) size with
    | false =>
      rw [hb, Bool.false_and] at HN
      gi_wp2_with (refine ⟨trivial, ?_⟩; gi_at_call 50; refine (CallsIn.inRound l' (callsIn_wide.2 (within_any x1 x2 size h1 h2 hx1 _))).mono ?_; rintro e w4 ⟨rfl, hb4⟩; rw [hb]; have C4 := HC.out.below hb4; have cr := (C4.at 1 rfl (j := 0) rfl).1; have fr := (C4.at 1 rfl (j := 0) rfl).2; have HC5 := Lib.hid ((C4.set 1 rfl 0 (.bool false)).pick [1] (by decide) rfl).turns; clear C4)
      exact Turns.and ⟨rfl, HN.out⟩ HC5.out
    | true =>
      have hI := HI.out.1 hb
      dsimp only at hI
      by_cases b2 : q ≤ x1
      · rw [hb, Bool.true_and, decide_eq_true b2] at HN
        have b2' : ¬ x1 < q := by omega
        gi_wp2_with (refine ⟨trivial, ?_⟩; gi_at_call 50; refine (CallsIn.inRound l' (callsIn_wide.2 (within_any x1 x2 size h1 h2 hx1 _))).mono ?_; rintro e w4 ⟨rfl, hb4⟩; rw [hb]; have C4 := HC.out.below hb4; have ce := (C4.at 2 rfl (j := 0) rfl).1; have fe := (C4.at 2 rfl (j := 0) rfl).2; have cx' := (C4.at 3 rfl (j := 0) rfl).1; have cx1' := (C4.at 3 rfl (j := 1) rfl).1; have HC4 := Lib.hid C4; clear C4 hb4 cx cx1 cz)
        have C5 := HC4.out.set 2 rfl 0 (.int .i64 (x1 + x2 + 1))
        refine Turns.and HN.out ?_
        rw [HE.out]
        exact groupT_shut (C5.pick [0, 1, 2] (by decide) rfl)
      · rw [hb, Bool.true_and, decide_eq_false b2] at HN
        have b2' : x1 < q := by omega
        gi_wp2_with (refine ⟨trivial, ?_⟩; gi_at_call 50; refine (CallsIn.inRound l' (callsIn_wide.2 (within_any x1 x2 size h1 h2 hx1 _))).mono ?_; rintro e w4 ⟨rfl, hb4⟩; rw [hb]; have C4 := HC.out.below hb4; have ce := (C4.at 2 rfl (j := 0) rfl).1; have cx' := (C4.at 3 rfl (j := 0) rfl).1; have cr := (C4.at 1 rfl (j := 0) rfl).1; have fr := (C4.at 1 rfl (j := 0) rfl).2; have HC5 := Lib.hid ((C4.set 1 rfl 0 (.bool false)).pick [1] (by decide) rfl).turns; clear C4 hb4 cx cx1 cz)
        exact Turns.and ⟨rfl, HN.out⟩ HC5.out
  case done =>
    intro D W3 C
    obtain ⟨hno, C⟩ := C.with 1 rfl
    have C := C.spill 1 rfl
    have cr := (C.at 4 rfl (j := 0) rfl).1
    have fr := (C.at 4 rfl (j := 0) rfl).2
    have C2 := C.set 4 rfl 0 (.bool true)
    have hD := C2.obj 2 rfl
    have cr2 := ((C2.objPut 2 rfl (.deferred none)).at 4 rfl (j := 0) rfl).1
    have HB := Lib.hid (C2.objPut 2 rfl (.deferred none)).bel
    have HSN := Lib.hid hno
    clear C C2 hno
    gi_wp2
    refine ⟨by simp, .inl ⟨_, _, rfl, run_takeDeferred hD, ?_⟩⟩
    exact ⟨_, results_cell1 rfl _ _ _ _ rfl Try.isAgg4 cr2, by rw [HSN.out]; rfl, HB.out⟩
  case stop =>
    intro D c pre W3 hpre C
    obtain ⟨⟨rfl, hy⟩, C⟩ := C.with 1 rfl
    have hD := C.obj 2 rfl
    have cr2 := ((C.objPut 2 rfl (.deferred none)).at 1 rfl (j := 0) rfl).1
    have HB := Lib.hid (C.objPut 2 rfl (.deferred none)).bel
    have HSN : Hid (rightI 0 size L = false) := rightI_pre hpre hy
    clear C hy hpre
    gi_wp2
    refine ⟨by simp, .inl ⟨_, _, rfl, run_takeDeferred hD, ?_⟩⟩
    exact ⟨_, results_cell1 rfl _ _ _ _ rfl Try.isAgg4 cr2, by rw [HSN.out]; rfl, HB.out⟩

set_option maxHeartbeats 2000000 in
theorem right_size (a : Option Addr) (c len : Nat) (size : Int) (h : size < 1 ∨ 8192 < size) (w : World) :
    Calls Try.prog 28 #[.slice a len c, .int .i64 size] w fun e w' => e = .returned (.bool false) ∧ Below w.heap.size w w' := by
  have HH := Lib.hid h
  have H0 := ((Crew.start w).block #[.int .i64 size] 3).block #[.bool false] 4
  rw [World.size_alloc] at H0
  have cr := (H0.at 1 rfl (j := 0) rfl).1
  have HB := Lib.hid H0.bel
  clear h H0
  go_enter Try.func28, Try.ntmps28
  go_wp2_with (go_at_call 48; refine (sized_no size HH.out _).mono ?_; rintro e w1 ⟨rfl, rfl⟩)
  refine bodyPost_ret (results_cell1 rfl _ _ _ _ rfl Try.isAgg4 cr) rfl ?_
  exact ⟨rfl, HB.out⟩

theorem pright_bad (L : List SpI) (a : Option Addr) (c len : Nat) (size : Int) (w : World) (h : SpansAt w a L) (hl : L.length = len) (hlen : len ≤ 100000) (hb : Bad L size) (hin : ∀ s ∈ L, In64 s.1) :
    Calls Try.prog 28 #[.slice a len c, .int .i64 size] w fun e w' => e = .returned (.bool false) ∧ Below w.heap.size w w' := by
  by_cases h1 : size < 1
  · exact right_size a c len size (.inl h1) w
  · by_cases h2 : 8192 < size
    · exact right_size a c len size (.inr h2) w
    · have hx : ∃ s ∈ L, insB s size = false := by
        rcases hb with h | h | h
        · exact absurd h h1
        · exact absurd h h2
        · exact h
      have := right_any L a c len size (by omega) (by omega) w h hl hlen hin
      rw [rightI_bad hx] at this
      exact this

theorem pright_good (L : List SpI) (N : List Sp) (n : Nat) (a : Option Addr) (c len : Nat) (w : World) (h : SpansAt w a L) (hl : L.length = len) (hlen : len ≤ 100000) (hg : Fits L N n) :
    Calls Try.prog 28 #[.slice a len c, .int .i64 n] w (YesIf (Ch 0 N) w) := by
  have hlo := hg.lo
  have hhi := hg.hi
  refine (right_any L a c len n (by omega) (by omega) w h hl hlen (fun s hs => ?_)).mono ?_
  · rw [hg.eq] at hs
    simp only [castS, List.mem_map] at hs
    obtain ⟨t, ht, rfl⟩ := hs
    have := hg.fit t ht
    exact ⟨by show -9223372036854775808 ≤ (t.1 : Int); omega, by show (t.1 : Int) ≤ 9223372036854775807; omega⟩
  · rintro e w' ⟨rfl, hb⟩
    exact ⟨_, rfl, by rw [hg.eq]; exact rightI_good hg.some hg.fit, hb⟩

end Go.Proofs.Ytnknojkihjpjkaa
