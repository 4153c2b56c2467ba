/-
  What the program's Total and Has answer. Conditions: as each theorem states them.
-/
import Derived.Test.YtnknojkihjpjkaaHsGap
import Derived.Test.YtnknojkihjpjkaaHsRight
namespace Go.Rc5

def sumI (l : List SpI) : Int := (l.map (·.2)).sum

theorem sumI_nil : sumI [] = 0 := rfl
theorem sumI_snoc (l : List SpI) (s : SpI) : sumI (l ++ [s]) = sumI l + s.2 := by simp [sumI]
theorem sumI_append (l l' : List SpI) : sumI (l ++ l') = sumI l + sumI l' := by simp [sumI]
theorem sumI_pos {l : List SpI} (h : ∀ s ∈ l, 0 ≤ s.2) : 0 ≤ sumI l := by
  induction l with
  | nil => exact Int.le_refl _
  | cons s r ih =>
    have h1 := h s List.mem_cons_self
    have h2 := ih (fun t ht => h t (List.mem_cons_of_mem _ ht))
    have e : sumI (s :: r) = s.2 + sumI r := by simp [sumI]
    omega

/-- The spans that have sectors. -/
def fullL (N : List Sp) : List SpI := (castS N).filter fun s => decide (1 ≤ s.2)

theorem fullL_mem {N : List Sp} {s : SpI} (h : s ∈ fullL N) : ∃ t ∈ N, s = ((t.1 : Int), (t.2 : Int)) ∧ 1 ≤ t.2 := by
  unfold fullL at h
  rw [List.mem_filter] at h
  obtain ⟨h1, h2⟩ := h
  simp only [castS, List.mem_map] at h1
  obtain ⟨t, ht, rfl⟩ := h1
  exact ⟨t, ht, rfl, by simp at h2; omega⟩

theorem fullL_sum (N : List Sp) : sumI (fullL N) = total N := by
  induction N with
  | nil => rfl
  | cons s r ih =>
    have e : castS (s :: r) = ((s.1 : Int), (s.2 : Int)) :: castS r := rfl
    unfold fullL at ih ⊢
    rw [e, total_cons]
    by_cases h : 1 ≤ (s.2 : Int)
    · rw [List.filter_cons_of_pos (by simpa using h)]
      have e2 : ∀ (x : SpI) (l : List SpI), sumI (x :: l) = x.2 + sumI l := fun x l => by simp [sumI]
      rw [e2, ih]
      simp
    · rw [List.filter_cons_of_neg (by simpa using h), ih]
      omega

theorem fullL_pre {N : List Sp} {pre : List SpI} {x : SpI} (h : pre ++ [x] <+: fullL N) : 0 ≤ sumI pre ∧ 1 ≤ x.2 ∧ sumI pre + x.2 ≤ total N := by
  obtain ⟨r, hr⟩ := h
  have hp : ∀ s ∈ fullL N, 1 ≤ s.2 := fun s hs => by
    obtain ⟨t, _, rfl, h⟩ := fullL_mem hs
    show 1 ≤ (t.2 : Int)
    omega
  rw [← fullL_sum, ← hr, sumI_append, sumI_snoc]
  rw [← hr] at hp
  have h1 := sumI_pos (l := pre) (fun s hs => by have := hp s (by simp [hs]); omega)
  have h2 := sumI_pos (l := r) (fun s hs => by have := hp s (by simp [hs]); omega)
  have h3 := hp x (by simp)
  omega

def hasL (l : List SpI) (at_ : Int) : Bool := l.any fun s => decide (s.1 ≤ at_) && decide (at_ - s.1 < s.2)

theorem hasL_snoc (l : List SpI) (s : SpI) (at_ : Int) : hasL (l ++ [s]) at_ = (hasL l at_ || (decide (s.1 ≤ at_) && decide (at_ - s.1 < s.2))) := by simp [hasL]

theorem hasL_full (N : List Sp) (at_ : Int) : hasL (fullL N) at_ = hasI N at_ := by
  induction N with
  | nil => rfl
  | cons s r ih =>
    have e : castS (s :: r) = ((s.1 : Int), (s.2 : Int)) :: castS r := rfl
    unfold fullL at ih ⊢
    rw [e]
    have e2 : hasI (s :: r) at_ = ((decide ((s.1 : Int) ≤ at_) && decide (at_ - s.1 < s.2)) || hasI r at_) := by simp [hasI]
    rw [e2, ← ih]
    by_cases h : 1 ≤ (s.2 : Int)
    · rw [List.filter_cons_of_pos (by simpa using h)]
      simp [hasL]
    · rw [List.filter_cons_of_neg (by simpa using h)]
      have : (decide ((s.1 : Int) ≤ at_) && decide (at_ - s.1 < s.2)) = false := by
        by_cases h1 : (s.1 : Int) ≤ at_
        · have h2 : ¬ (at_ - s.1 < s.2) := by omega
          simp [h2]
        · simp [h1]
      rw [this, Bool.false_or]

theorem hasL_pre {l l' : List SpI} {at_ : Int} (h : l <+: l') (ht : hasL l at_ = true) : hasL l' at_ = true := by
  obtain ⟨r, rfl⟩ := h
  unfold hasL at ht ⊢
  rw [List.any_append, ht, Bool.true_or]

end Go.Rc5
namespace Go.Proofs.Ytnknojkihjpjkaa
open Go.RowKit Go.Rc5 Go.Shelf

attribute [local go_sem] Oper.semAt_some

theorem eg38 : ∀ args w, (callFunc 63 args).run Try.prog w = .ok (.enter 63 args) w := enters_of Try.func63 (by kernel_rfl) rfl
theorem eg40 : ∀ args w, (callFunc 64 args).run Try.prog w = .ok (.enter 64 args) w := enters_of Try.func64 (by kernel_rfl) rfl
set_option maxRecDepth 100000 in
set_option maxHeartbeats 4000000 in
theorem ptotal (N : List Sp) (a : Option Addr) (c len : Nat) (w : World) (h : SpansAt w a (castS N)) (hl : N.length = len) (hlen : len ≤ 100000) (hm : ∀ s ∈ N, s.2 ≤ 8192) :
    Calls Try.prog 30 #[.slice a len c] w fun e w' => e = .returned (.int .i64 (total N)) ∧ Below w.heap.size w w' := by
  have hb := total_bound N hm
  have htb : total N ≤ 1000000000 := by omega
  have H0 := ((Crew.start w).block #[.int .i64 0] 3).block #[.slice a len c] 23
  have hbl := H0.bel
  have HG := Lib.hid (full_gives (castS N) a c len (w.heap.size + 1) _ (by have := (H0.one (i := 1) rfl).choose_spec.1.1; rwa [World.size_alloc] at this) w.heap.size hbl.size (spans_reads h hbl) (by rw [castS_length, hl]) (by omega))
  rw [World.size_alloc] at H0
  have HC : Hid (Crew (fun _ => False) w [blkT (w.heap.size + 1) #[.slice a len c] 23, blkT w.heap.size #[.int .i64 0] 3] _) := H0.pick [1, 0] (by decide) rfl
  clear h hl hm hb H0 hbl
  refine (callsIn_wide (n := 3)).1 (callsIn_of_wp_marks Try.func30 rfl trivial ?_ rfl)
  simp only [Try.ntmps30, List.size_toArray, List.length_cons, List.length_nil, Nat.reduceAdd, Nat.reduceSub, Array.replicate_succ, Array.replicate_zero, List.push_toArray, List.append_toArray, List.nil_append, List.cons_append]
  gi_wp2_with (refine ⟨trivial, ?_⟩; gi_at_call 52; refine (callsIn_wide.2 (full_any _ _ _ _)).mono ?_; rintro e w1 ⟨rfl, rfl⟩)
  refine wpIn_range (gf := 64) rfl eg40 HG.out (Nat.le_refl _) (fun _ _ => rfl) (fun _ => rfl)
    (fun pre => blkT w.heap.size #[.int .i64 (sumI pre)] 3)
    (fun _ _ => withT False noT)
    (fun pre x a' => exT fun Bx : Nat => withT (a' = { tmps := #[.slice a len c, undef, .int .i64 0, .pointer (some ⟨w.heap.size, 0, none⟩), .pointer (some ⟨Bx, 0, none⟩), .slice a len c, .func (.func 64) #[] #[.pointer (some ⟨w.heap.size + 1, 0, none⟩)], .agg #[.int .i64 x.1, .int .i64 x.2], undef, undef, undef, undef, undef], defers := [] })
      (groupT [blkT w.heap.size #[.int .i64 (sumI pre)] 3, blkT Bx #[.int .i64 x.1, .int .i64 x.2] 53]))
    HC.out (by rintro OS _ ⟨_, rfl⟩ k (rfl | ⟨hk, _⟩); exact .inl rfl; exact .inr ⟨hk, fun h => h⟩) ?assign ?body ?done ?stop
  case assign =>
    rintro l' pre x O' W' K hI hK
    have C := (Crew.only hI).block #[.int .i64 x.1, .int .i64 x.2] 53
    have HT := Lib.hid (groupT_shut C)
    have HK := Lib.hid hK
    clear C hI hK
    dsimp only [encS]
    gi_wp2
    exact HK.out _ _ (Turns.ex W'.heap.size (Turns.and rfl HT.out))
  case body =>
    rintro l' pre x a' O' W' hpre ⟨Bx, rfl, hgrp⟩
    have C := groupT_open hgrp
    have hq := fullL_pre hpre
    have HN := Lib.hid (sumI_snoc pre x)
    obtain ⟨x1, x2⟩ := x
    have ct := (C.at 0 rfl (j := 0) rfl).1
    have ft := (C.at 0 rfl (j := 0) rfl).2
    have cx := (C.at 1 rfl (j := 0) rfl).1
    have cx1 := (C.at 1 rfl (j := 1) rfl).1
    have HC := Lib.hid C
    clear C hgrp hpre
    dsimp only at hq HN cx cx1
    generalize sumI pre = q at *
    have C4 := HC.out.set 0 rfl 0 (.int .i64 (q + x2))
    have HC4 : Hid (Turns (blkT w.heap.size #[.int .i64 (sumI (pre ++ [(x1, x2)]))] 3) O' W' (W'.setCell ⟨w.heap.size, 0, none⟩ (.int .i64 (q + x2)))) := by
      unfold Hid
      rw [HN.out]
      exact (C4.pick [0] (by decide) rfl).turns
    clear C4
    gi_wp2
    exact HC4.out
  case done =>
    intro D W3 C
    have ct := (C.at 1 rfl (j := 0) rfl).1
    have hD := C.obj 2 rfl
    have HB := Lib.hid (C.objPut 2 rfl (.deferred none)).bel
    clear C
    have hs : sumI ((castS N).filter fun s => decide (1 ≤ s.2)) = total N := fullL_sum N
    rw [hs] at ct
    gi_wp2
    refine ⟨by simp, .inl ⟨_, _, rfl, run_takeDeferred hD, ?_⟩⟩
    exact ⟨_, results_tmp rfl _ _ _, rfl, HB.out⟩
  case stop =>
    intro D c pre W3 _ C
    exact (C.with 1 rfl).1.elim


set_option maxRecDepth 100000 in
set_option maxHeartbeats 4000000 in
theorem phas_any (N : List Sp) (a : Option Addr) (c len : Nat) (at_ : Int) (hat : at_ ≤ 9223372036854775807) (w : World) (h : SpansAt w a (castS N)) (hl : N.length = len) (hlen : len ≤ 100000) (hm : ∀ s ∈ N, s.1 + s.2 ≤ 8192) :
    Calls Try.prog 51 #[.slice a len c, .int .i64 at_] w fun e w' => e = .returned (.bool (hasI N at_)) ∧ Below w.heap.size w w' := by
  have H0 := (((Crew.start w).block #[.int .i64 at_] 3).block #[.bool false] 4).block #[.slice a len c] 23
  have hbl := H0.bel
  have HG := Lib.hid (full_gives (castS N) a c len (w.heap.size + 1 + 1) _ (by have := (H0.one (i := 2) rfl).choose_spec.1.1; simpa only [World.size_alloc] using this) w.heap.size hbl.size (spans_reads h hbl) (by rw [castS_length, hl]) (by omega))
  simp only [World.size_alloc] at H0
  have HC : Hid (Crew (fun _ => False) w [blkT (w.heap.size + 1 + 1) #[.slice a len c] 23, withT (hasL [] at_ = false) (groupT [blkT w.heap.size #[.int .i64 at_] 3, blkT (w.heap.size + 1) #[.bool false] 4])] (((w.alloc (.cells #[.int .i64 at_] 3)).alloc (.cells #[.bool false] 4)).alloc (.cells #[.slice a len c] 23))) := by
    have h := Crew.grp (H0.pick [2, 0, 1] (by decide) rfl)
    obtain ⟨O, ho, hset, _⟩ := h.one (i := 1) rfl
    exact hset _ _ (Turns.and rfl (Turns.same ho))
  have HM := Lib.hid hm
  clear h hl hm H0 hbl
  refine (callsIn_wide (n := 3)).1 (callsIn_of_wp_marks Try.func51 rfl trivial ?_ rfl)
  simp only [Try.ntmps51, List.size_toArray, List.length_cons, List.length_nil, Nat.reduceAdd, Nat.reduceSub, Array.replicate_succ, Array.replicate_zero, List.push_toArray, List.append_toArray, List.nil_append, List.cons_append]
  gi_wp2_with (refine ⟨trivial, ?_⟩; gi_at_call 52; refine (callsIn_wide.2 (full_any _ _ _ _)).mono ?_; rintro e w1 ⟨rfl, rfl⟩)
  refine wpIn_range (gf := 64) rfl eg40 HG.out (Nat.le_refl _) (fun _ _ => rfl) (fun _ => rfl)
    (fun pre => withT (hasL pre at_ = false) (groupT [blkT w.heap.size #[.int .i64 at_] 3, blkT (w.heap.size + 1) #[.bool false] 4]))
    (fun cd pre => withT (cd = .ret ∧ hasL pre at_ = true) (groupT [blkT w.heap.size #[.int .i64 at_] 3, blkT (w.heap.size + 1) #[.bool true] 4]))
    (fun pre x a' => exT fun Bx : Nat => withT (hasL pre at_ = false ∧ a' = { tmps := #[.slice a len c, .int .i64 at_, undef, .pointer (some ⟨w.heap.size, 0, none⟩), .pointer (some ⟨w.heap.size + 1, 0, none⟩), .pointer (some ⟨Bx, 0, none⟩), .slice a len c, .func (.func 64) #[] #[.pointer (some ⟨w.heap.size + 1 + 1, 0, none⟩)], .agg #[.int .i64 x.1, .int .i64 x.2], undef, undef, undef, undef, undef, undef, undef, undef, undef, undef, undef, undef, undef, undef, undef, undef], defers := [] })
      (groupT [blkT w.heap.size #[.int .i64 at_] 3, blkT (w.heap.size + 1) #[.bool false] 4, blkT Bx #[.int .i64 x.1, .int .i64 x.2] 53]))
    HC.out (by rintro OS _ ⟨_, rfl⟩ k (rfl | ⟨hk, _⟩); exact .inl rfl; exact .inr ⟨hk, fun h => h⟩) ?assign ?body ?done ?stop
  case assign =>
    rintro l' pre x O' W' K ⟨hno, hI⟩ hK
    have C := (groupT_open hI).block #[.int .i64 x.1, .int .i64 x.2] 53
    have HT := Lib.hid (groupT_shut C)
    have HK := Lib.hid hK
    have HNO := Lib.hid hno
    clear C hI hK hno
    dsimp only [encS]
    gi_wp2
    exact HK.out _ _ (Turns.ex W'.heap.size (Turns.and ⟨HNO.out, rfl⟩ HT.out))
  case body =>
    rintro l' pre x a' O' W' hpre ⟨Bx, ⟨hno, rfl⟩, hgrp⟩
    have C := groupT_open hgrp
    have HN := Lib.hid (hasL_snoc pre x at_)
    have hx : 0 ≤ x.1 ∧ 1 ≤ x.2 ∧ x.1 ≤ 8192 ∧ x.2 ≤ 8192 := by
      obtain ⟨t, ht, e, h1⟩ := fullL_mem (N := N) (s := x) (hpre.subset (by simp))
      have := HM.out t ht
      rw [e]
      exact ⟨by simp, by show 1 ≤ (t.2 : Int); omega, by show (t.1 : Int) ≤ 8192; omega, by show (t.2 : Int) ≤ 8192; omega⟩
    rw [hno, Bool.false_or] at HN
    obtain ⟨x1, x2⟩ := x
    have ca := (C.at 0 rfl (j := 0) rfl).1
    have cr := (C.at 1 rfl (j := 0) rfl).1
    have fr := (C.at 1 rfl (j := 0) rfl).2
    have cx := (C.at 2 rfl (j := 0) rfl).1
    have cx1 := (C.at 2 rfl (j := 1) rfl).1
    have HC := Lib.hid C
    clear C hgrp hpre hno
    dsimp only at hx HN cx cx1
    by_cases b1 : x1 ≤ at_
    · have ha0 : 0 ≤ at_ := by omega
      by_cases b2 : at_ - x1 < x2
      · have C4 := HC.out.set 1 rfl 0 (.bool true)
        have HC4 : Hid (Turns (groupT [blkT w.heap.size #[.int .i64 at_] 3, blkT (w.heap.size + 1) #[.bool true] 4]) O' W' (W'.setCell ⟨w.heap.size + 1, 0, none⟩ (.bool true))) := groupT_shut (C4.pick [0, 1] (by decide) rfl)
        have HYS : Hid (hasL (pre ++ [(x1, x2)]) at_ = true) := by
          unfold Hid
          rw [HN.out]
          simp [b1, b2]
        clear C4
        gi_wp2
        exact Turns.and ⟨rfl, HYS.out⟩ HC4.out
      · have HC4 : Hid (Turns (withT (hasL (pre ++ [(x1, x2)]) at_ = false) (groupT [blkT w.heap.size #[.int .i64 at_] 3, blkT (w.heap.size + 1) #[.bool false] 4])) O' W' W') := by
          refine Turns.and ?_ (groupT_shut (HC.out.pick [0, 1] (by decide) rfl))
          rw [HN.out, decide_eq_false b2, Bool.and_false]
        have b2B : x2 ≤ at_ - x1 := by omega
        gi_wp2
        exact HC4.out
    · have HC4 : Hid (Turns (withT (hasL (pre ++ [(x1, x2)]) at_ = false) (groupT [blkT w.heap.size #[.int .i64 at_] 3, blkT (w.heap.size + 1) #[.bool false] 4])) O' W' W') := by
        refine Turns.and ?_ (groupT_shut (HC.out.pick [0, 1] (by decide) rfl))
        rw [HN.out, decide_eq_false b1, Bool.false_and]
      gi_wp2
      exact HC4.out
  case done =>
    intro D W3 C
    obtain ⟨hno, C⟩ := C.with 1 rfl
    have C := C.spill 1 rfl
    have cr := (C.at 4 rfl (j := 0) rfl).1
    have fr := (C.at 4 rfl (j := 0) rfl).2
    have C2 := C.set 4 rfl 0 (.bool false)
    have hD := C2.obj 2 rfl
    have cr2 := ((C2.objPut 2 rfl (.deferred none)).at 4 rfl (j := 0) rfl).1
    have HB := Lib.hid (C2.objPut 2 rfl (.deferred none)).bel
    clear C C2
    have HSN : Hid (hasI N at_ = false) := by unfold Hid; rw [← hasL_full]; exact hno
    clear hno
    gi_wp2
    refine ⟨by simp, .inl ⟨_, _, rfl, run_takeDeferred hD, ?_⟩⟩
    exact ⟨_, results_cell1 rfl _ _ _ _ rfl Try.isAgg4 cr2, by rw [HSN.out]; rfl, HB.out⟩
  case stop =>
    intro D c pre W3 hpre C
    obtain ⟨⟨rfl, hy⟩, C⟩ := C.with 1 rfl
    have C := C.spill 1 rfl
    have hD := C.obj 2 rfl
    have cr2 := ((C.objPut 2 rfl (.deferred none)).at 4 rfl (j := 0) rfl).1
    have HB := Lib.hid (C.objPut 2 rfl (.deferred none)).bel
    clear C
    have HSN : Hid (hasI N at_ = true) := by unfold Hid; rw [← hasL_full]; exact hasL_pre hpre hy
    clear hy hpre
    gi_wp2
    refine ⟨by simp, .inl ⟨_, _, rfl, run_takeDeferred hD, ?_⟩⟩
    exact ⟨_, results_cell1 rfl _ _ _ _ rfl Try.isAgg4 cr2, by rw [HSN.out]; rfl, HB.out⟩

end Go.Proofs.Ytnknojkihjpjkaa
