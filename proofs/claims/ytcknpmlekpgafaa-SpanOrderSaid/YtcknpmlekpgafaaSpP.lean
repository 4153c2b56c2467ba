/-
  What the program's Take answers. Conditions: as each theorem states them.
-/
import Derived.Test.YtcknpmlekpgafaaSpNr
import Derived.Test.YtcknpmlekpgafaaSpTakeM
import Derived.Test.YtcknpmlekpgafaaSpTake
namespace Go.Rc5

def tkm (m : Int) : List SpI → Int
  | [] => m
  | s :: r => tkm (m - min m s.2) r

def tk1 (m : Int) : List SpI → List SpI
  | [] => []
  | s :: r => (if 0 < min m s.2 then [(s.1, min m s.2)] else []) ++ tk1 (m - min m s.2) r

def tk2 (m : Int) : List SpI → List SpI
  | [] => []
  | s :: r => (if min m s.2 < s.2 then [(s.1 + min m s.2, s.2 - min m s.2)] else []) ++ tk2 (m - min m s.2) r

theorem tkm_snoc (m : Int) (l : List SpI) (s : SpI) : tkm m (l ++ [s]) = tkm m l - min (tkm m l) s.2 := by
  induction l generalizing m with
  | nil => rfl
  | cons t r ih => exact ih _

theorem tk1_snoc (m : Int) (l : List SpI) (s : SpI) : tk1 m (l ++ [s]) = tk1 m l ++ (if 0 < min (tkm m l) s.2 then [(s.1, min (tkm m l) s.2)] else []) := by
  induction l generalizing m with
  | nil =>
    simp only [List.nil_append, tk1, tkm, List.append_nil]
    rfl
  | cons t r ih =>
    simp only [List.cons_append, tk1, tkm, ih, List.append_assoc]
    rfl

theorem tk2_snoc (m : Int) (l : List SpI) (s : SpI) : tk2 m (l ++ [s]) = tk2 m l ++ (if min (tkm m l) s.2 < s.2 then [(s.1 + min (tkm m l) s.2, s.2 - min (tkm m l) s.2)] else []) := by
  induction l generalizing m with
  | nil =>
    simp only [List.nil_append, tk2, tkm, List.append_nil]
    rfl
  | cons t r ih =>
    simp only [List.cons_append, tk2, tkm, ih, List.append_assoc]
    rfl

theorem tkm_bound {m : Int} {l : List SpI} (h0 : 0 ≤ m) (h : ∀ s ∈ l, 0 ≤ s.2) : 0 ≤ tkm m l ∧ tkm m l ≤ m := by
  induction l generalizing m with
  | nil => exact ⟨h0, Int.le_refl _⟩
  | cons t r ih =>
    have ht := h t List.mem_cons_self
    have := ih (m := m - min m t.2) (by omega) (fun s hs => h s (List.mem_cons_of_mem _ hs))
    unfold tkm
    omega

theorem tk_len (m : Int) (l : List SpI) : (tk1 m l).length ≤ l.length ∧ (tk2 m l).length ≤ l.length := by
  induction l generalizing m with
  | nil => exact ⟨Nat.le_refl _, Nat.le_refl _⟩
  | cons t r ih =>
    have := ih (m - min m t.2)
    unfold tk1 tk2
    simp only [List.length_append, List.length_cons]
    constructor
    · split <;> simp <;> omega
    · split <;> simp <;> omega

theorem tk_zero (l : List Sp) (hs : ∀ s ∈ l, 1 ≤ s.2) : tk1 0 (castS l) = [] ∧ tk2 0 (castS l) = castS l := by
  induction l with
  | nil => exact ⟨rfl, rfl⟩
  | cons s r ih =>
    have h1 := hs s List.mem_cons_self
    obtain ⟨i1, i2⟩ := ih (fun t ht => hs t (List.mem_cons_of_mem _ ht))
    have e : castS (s :: r) = ((s.1 : Int), (s.2 : Int)) :: castS r := rfl
    have hm : min (0 : Int) (s.2 : Int) = 0 := by omega
    rw [e]
    unfold tk1 tk2
    dsimp only
    rw [hm]
    simp only [Int.sub_zero, Int.add_zero, i1, i2]
    rw [if_neg (by omega), if_pos (by omega)]
    exact ⟨rfl, rfl⟩

theorem tk_cast (l : List Sp) (n : Nat) (hs : ∀ s ∈ l, 1 ≤ s.2) : tk1 n (castS l) = castS (takeL l n).1 ∧ tk2 n (castS l) = castS (takeL l n).2 := by
  induction l generalizing n with
  | nil => exact ⟨rfl, rfl⟩
  | cons s r ih =>
    have h1 := hs s List.mem_cons_self
    have hr : ∀ t ∈ r, 1 ≤ t.2 := fun t ht => hs t (List.mem_cons_of_mem _ ht)
    have e : castS (s :: r) = ((s.1 : Int), (s.2 : Int)) :: castS r := rfl
    by_cases h0 : n = 0
    · subst h0
      have := tk_zero (s :: r) hs
      unfold takeL
      rw [if_pos rfl]
      exact this
    · by_cases h2 : s.2 ≤ n
      · have hm : min (n : Int) (s.2 : Int) = s.2 := by omega
        obtain ⟨i1, i2⟩ := ih (n - s.2) hr
        have e2 : (n : Int) - (s.2 : Int) = ((n - s.2 : Nat) : Int) := by omega
        rw [e]
        unfold tk1 tk2 takeL
        dsimp only
        rw [hm, e2, i1, i2, if_neg h0, if_pos h2, if_pos (by omega), if_neg (by omega)]
        exact ⟨rfl, rfl⟩
      · have hm : min (n : Int) (s.2 : Int) = n := by omega
        obtain ⟨z1, z2⟩ := tk_zero r hr
        rw [e]
        unfold tk1 tk2 takeL
        dsimp only
        rw [hm, Int.sub_self, z1, z2, if_neg h0, if_neg h2, if_pos (by omega), if_pos (by omega)]
        refine ⟨by simp [castS], ?_⟩
        simp only [castS, List.map_cons, List.cons_append, List.nil_append]
        congr 1
        exact Prod.ext (by simp) (by show (s.2 : Int) - n = ((s.2 - n : Nat) : Int); omega)

theorem fullL_all {N : List Sp} (h : ∀ s ∈ N, 1 ≤ s.2) : fullL N = castS N := by
  unfold fullL
  rw [List.filter_eq_self]
  intro s hs
  simp only [castS, List.mem_map] at hs
  obtain ⟨t, ht, rfl⟩ := hs
  have := h t ht
  simp
  omega

end Go.Rc5
namespace Go.Proofs.Ytcknpmlekpgafaa
open Go.RowKit Go.Rc5 Go.Shelf

attribute [local go_sem] Oper.semAt_some

theorem after_total (N : List Sp) (a : Option Addr) (c len : Nat) (W : World) (h : SpansAt W a (castS N)) (hl : N.length = len) (hlen : len ≤ 100000) (hm : ∀ s ∈ N, s.2 ≤ 8192) (p : After W) :
    Calls Try.prog 17 #[.slice a len c] p.to fun e w' => e = .returned (.int .i64 (total N)) ∧ ∃ q : After W, w' = q.to :=
  (ptotal N a c len p.to (SpansAt.below h p.is) hl hlen hm).mono fun _ w' ⟨he, hw⟩ => ⟨he, ⟨w', p.is.trans (hw.mono p.is.size)⟩, rfl⟩

set_option maxRecDepth 100000 in
set_option maxHeartbeats 4000000 in
theorem ptake_no (N : List Sp) (a : Option Addr) (c len : Nat) (m : Int) (w : World) (h : SpansAt w a (castS N)) (hl : N.length = len) (hlen : len ≤ 100000) (_ : Ch 0 N) (hm : ∀ s ∈ N, s.1 + s.2 ≤ 8192) (hn : m < 0 ∨ (total N : Int) < m) :
    Calls Try.prog 21 #[.slice a len c, .int .i64 m] w fun e w' => e = .returned (.tuple #[.slice none 0 0, .slice none 0 0, .bool false]) ∧ Below w.heap.size w w' := by
  have C := (Crew.start w).block #[.int .i64 m] 3
  have hb := C.bel
  have HT := Lib.hid (fun p => after_total N a c len _ (SpansAt.below h hb) hl hlen (fun s hs => by have := hm s hs; omega) p)
  have cm := fun p => after_cell (C.at 0 rfl (j := 0) rfl).1 (C.lt 0 rfl) p
  have HB := Lib.hid hb
  clear h hl hm C hb
  by_cases h0 : m < 0
  · clear hn
    go_enter Try.func21, Try.ntmps21
    go_wp2_with fail
    refine wp_region_after (by kernel_rfl) (by kernel_rfl) ?_
    repeat (go_big_quiet_step (first | with_reducible exact HT.out _))
    refine wpQuiet_nil ?_
    intro _ hw
    obtain ⟨p, rfl⟩ := hw
    have HP := Lib.hid p.is
    generalize p.to = wp at *
    go_wp2
    go_ret3
    exact ⟨rfl, HB.out.trans (HP.out.mono HB.out.size)⟩
  · have h1 : (total N : Int) < m := hn.resolve_left h0
    have h2 : decide (m < 0) = false := decide_eq_false h0
    have h3 : decide ((total N : Int) < m) = true := decide_eq_true h1
    clear hn
    generalize total N = T at *
    go_enter Try.func21, Try.ntmps21
    go_wp2_with fail
    refine wp_region_after (by kernel_rfl) (by kernel_rfl) ?_
    repeat (go_big_quiet_step (first | with_reducible exact HT.out _))
    refine wpQuiet_nil ?_
    intro _ hw
    obtain ⟨p, rfl⟩ := hw
    have HP := Lib.hid p.is
    generalize p.to = wp at *
    go_wp2
    go_ret3
    exact ⟨rfl, HB.out.trans (HP.out.mono HB.out.size)⟩


set_option maxRecDepth 100000 in
set_option maxHeartbeats 16000000 in
theorem ptake_yes (N : List Sp) (a : Option Addr) (c len n : Nat) (w : World) (h : SpansAt w a (castS N)) (hl : N.length = len) (hlen : len ≤ 100000) (hch : Ch 0 N) (hm : ∀ s ∈ N, s.1 + s.2 ≤ 8192) (hn : n ≤ total N) :
    Calls Try.prog 21 #[.slice a len c, .int .i64 n] w (TakeAt (castS (rows (oneB N n) 8192)) (castS (rows (twoB N n) 8192)) w) := by
  have hone := rows_one hch hm n
  have htwo := rows_two hch hm n
  obtain ⟨t1, t2⟩ := tk_cast N n hch.some
  rw [hone, htwo, ← t1, ← t2]
  clear hone htwo t1 t2
  have hn0 : n ≤ 1000000000 := by
    have := total_bound N (fun s hs => by have := hm s hs; omega)
    omega
  have hnI : decide (total N < n) = false := decide_eq_false (by omega)
  have hnI2 : decide ((n : Int) < 0) = false := decide_eq_false (by omega)
  have C := (Crew.start w).block #[.int .i64 n] 3
  have hb := C.bel
  have HT := Lib.hid (fun p => after_total N a c len _ (SpansAt.below h hb) hl hlen (fun s hs => by have := hm s hs; omega) p)
  have cm := fun p => after_cell (C.at 0 rfl (j := 0) rfl).1 (C.lt 0 rfl) p
  have HC := Lib.hid C
  have HS := Lib.hid h
  have HSZ : Hid (w.heap.size < (w.alloc (.cells #[.int .i64 n] 3)).heap.size) := by simp [Hid]
  have HL := Lib.hid hl
  have HM := Lib.hid hm
  have HCH := Lib.hid hch
  have HNT := Lib.hid hn
  clear h hl hm C hb hch hn
  generalize total N = T at *
  refine (callsIn_wide (n := 3)).1 (callsIn_of_wp_marks Try.func21 rfl trivial ?_ rfl)
  simp only [Try.ntmps21, List.size_toArray, List.length_cons, List.length_nil, Nat.reduceAdd, Nat.reduceSub, Array.replicate_succ, Array.replicate_zero, List.push_toArray, List.append_toArray, List.nil_append, List.cons_append]
  gi_wp2
  refine wpIn_wide.2 ?_
  refine wp_region_after (by kernel_rfl) (by kernel_rfl) ?_
  repeat (go_big_quiet_step (first | with_reducible exact HT.out _))
  refine wpQuiet_nil ?_
  intro _ hw
  obtain ⟨p, rfl⟩ := hw
  have C2 := HC.out.below p.is
  clear cm HT HC HSZ
  generalize p.to = wp at *
  have H0 := ((((C2.block #[.slice none 0 0] 22).block #[.slice none 0 0] 22).nil 34 2).nil 34 2).block #[.slice a len c] 22
  simp only [World.size_alloc] at H0
  have hbl := H0.bel
  have HG := Lib.hid (full_gives (castS N) a c len (wp.heap.size + 1 + 1) _ (by have := (H0.one (i := 5) rfl).choose_spec.1.1; simpa only [World.size_alloc] using this) w.heap.size hbl.size (spans_reads HS.out hbl) (by rw [castS_length, HL.out]) (by omega))
  have HC : Hid (Crew (fun _ => False) w [blkT (wp.heap.size + 1 + 1) #[.slice a len c] 22, exT fun p : Value × Value => groupT [blkT w.heap.size #[.int .i64 (tkm n [])] 3, blkT wp.heap.size #[p.1] 22, blkT (wp.heap.size + 1) #[p.2] 22, spT p.1 (tk1 n []), spT p.2 (tk2 n [])]] (((wp.alloc (.cells #[.slice none 0 0] 22)).alloc (.cells #[.slice none 0 0] 22)).alloc (.cells #[.slice a len c] 22))) := by
    have h := Crew.grp (H0.pick [5, 0, 1, 2, 3, 4] (by decide) rfl)
    obtain ⟨O, ho, hset, _⟩ := h.one (i := 1) rfl
    exact hset _ _ (Turns.ex (.slice none 0 0, .slice none 0 0) (Turns.same ho))
  clear H0 hbl C2
  gi_wp2_with (refine ⟨trivial, ?_⟩; gi_at_call 31; refine (callsIn_wide.2 (full_any _ _ _ _)).mono ?_; rintro e w1 ⟨rfl, rfl⟩)
  refine wpIn_range (gf := 40) rfl eg40 HG.out (Nat.le_refl _) (fun _ _ => rfl) (fun _ => rfl)
    (fun pre => exT fun p : Value × Value => groupT [blkT w.heap.size #[.int .i64 (tkm n pre)] 3, blkT wp.heap.size #[p.1] 22, blkT (wp.heap.size + 1) #[p.2] 22, spT p.1 (tk1 n pre), spT p.2 (tk2 n pre)])
    (fun _ _ => withT False noT)
    (fun pre x a' => exT fun p : (Value × Value) × Nat => withT (a' = { tmps := #[.slice a len c, .int .i64 n, undef, .pointer (some ⟨w.heap.size, 0, none⟩), .slice none 0 0, .slice none 0 0, .bool false, .pointer (some ⟨wp.heap.size, 0, none⟩), .pointer (some ⟨wp.heap.size + 1, 0, none⟩), .pointer (some ⟨p.2, 0, none⟩), undef, .int .i64 n, .bool false, .bool false, .int .i64 n, .slice a len c, .int .i64 T, .bool false, .bool false, .slice a len c, .func (.func 40) #[] #[.pointer (some ⟨wp.heap.size + 1 + 1, 0, none⟩)], .agg #[.int .i64 x.1, .int .i64 x.2], undef, undef, undef, undef, undef, undef, undef, undef, undef, undef, undef, undef, undef, undef, undef, undef, undef, undef, undef, undef, undef, undef, undef, undef, undef, undef, undef, undef, undef, undef, undef, undef, undef, undef], defers := [] })
      (groupT [blkT w.heap.size #[.int .i64 (tkm n pre)] 3, blkT wp.heap.size #[p.1.1] 22, blkT (wp.heap.size + 1) #[p.1.2] 22, spT p.1.1 (tk1 n pre), spT p.1.2 (tk2 n pre), blkT p.2 #[.int .i64 x.1, .int .i64 x.2] 34]))
    HC.out (by rintro OS _ ⟨_, rfl⟩ k (rfl | ⟨hk, _⟩); exact .inl rfl; exact .inr ⟨hk, fun h => h⟩) ?assign ?body ?done ?stop
  case assign =>
    rintro l' pre x O' W' K ⟨p, hI⟩ hK
    have C := (groupT_open hI).block #[.int .i64 x.1, .int .i64 x.2] 34
    have HT := Lib.hid (groupT_shut C)
    have HK := Lib.hid hK
    clear C hI hK
    dsimp only [encS]
    gi_wp2
    exact HK.out _ _ (Turns.ex (p, W'.heap.size) (Turns.and rfl HT.out))
  case body =>
    rintro l' pre x a' O' W' hpre ⟨⟨⟨v1, v2⟩, Bx⟩, rfl, hgrp⟩
    have C := groupT_open hgrp
    dsimp only at C ⊢
    have hx : 0 ≤ x.1 ∧ 1 ≤ x.2 ∧ x.1 + x.2 ≤ 8192 := by
      obtain ⟨t, ht, e, h1⟩ := fullL_mem (N := N) (s := x) (hpre.subset (by simp))
      have := HM.out t ht
      rw [e]
      exact ⟨by simp, by show 1 ≤ (t.2 : Int); omega, by show (t.1 : Int) + (t.2 : Int) ≤ 8192; omega⟩
    have hpl : pre.length ≤ 100000 := by
      have h1 := hpre.length_le
      have h2 := List.length_filter_le (fun s : SpI => decide (1 ≤ s.2)) (castS N)
      rw [castS_length, HL.out] at h2
      simp at h1
      omega
    have hlen1 := (tk_len n pre).1
    have hlen2 := (tk_len n pre).2
    have hq := tkm_bound (m := n) (l := pre) (by omega) (fun s hs => by
      obtain ⟨t, ht, e, h1⟩ := fullL_mem (N := N) (s := s) (hpre.subset (by simp [hs]))
      rw [e]
      show 0 ≤ (t.2 : Int)
      omega)
    have E0 := Lib.hid (tkm_snoc n pre x)
    have E1 := Lib.hid (tk1_snoc n pre x)
    have E2 := Lib.hid (tk2_snoc n pre x)
    obtain ⟨x1, x2⟩ := x
    obtain ⟨av1, cv1, rfl⟩ := C.slice 3 rfl
    obtain ⟨av2, cv2, rfl⟩ := C.slice 4 rfl
    have c0 := (C.at 0 rfl (j := 0) rfl).1
    have f0 := (C.at 0 rfl (j := 0) rfl).2
    have c1 := (C.at 1 rfl (j := 0) rfl).1
    have c2 := (C.at 2 rfl (j := 0) rfl).1
    have cx := (C.at 5 rfl (j := 0) rfl).1
    have cx1 := (C.at 5 rfl (j := 1) rfl).1
    have HC := Lib.hid C
    clear C hgrp hpre
    dsimp only at hx E0 E1 E2 cx cx1
    generalize tkm n pre = q at *
    generalize tk1 n pre = A at *
    generalize tk2 n pre = B at *
    rcases Int.lt_or_le 0 q with hq0 | hq0
    · rcases Int.lt_or_le q x2 with hqx | hqx
      · -- some of it
        have hmn : min q x2 = q := by omega
        rw [hmn] at E0 E1 E2
        rw [Int.sub_self] at E0
        rw [if_pos hq0] at E1
        rw [if_pos hqx] at E2
        have HE := Lib.hid (HC.out.below ((Below.refl _ W').alloc (Nat.le_refl _) (.cells #[.int .i64 x1, .int .i64 q] 34)))
        gi_wp2_with (gi_at_builtin; refine wpListIn_append_crew HE.out 3 rfl rfl (.tmp 28) (.tmp 33) 22 rfl (.agg #[.int .i64 0, .int .i64 0]) 16 Try.underlying22 infoP rfl (by decide) rfl ⟨W'.heap.size, 0, none⟩ 1 1 [.int .i64 (x1), .int .i64 (q)] rfl rfl ?c1a ?c2a ?b1a ?b2a ?nexta)
        case c2a => exact ⟨rfl, rfl⟩
        case b1a => unfold maxLen; omega
        case b2a => omega
        case nexta =>
          intro v' w2 hF
          obtain ⟨av1', cv1', rfl⟩ := hF.slice 3 rfl
          have d1 := (hF.at 1 rfl (j := 0) rfl).1
          have g1 := (hF.at 1 rfl (j := 0) rfl).2
          have C3 := hF.set 1 rfl 0 (.slice av1' (A.length + 1) cv1')
          have d2 := (C3.at 2 rfl (j := 0) rfl).1
          have dx := (C3.at 5 rfl (j := 0) rfl).1
          have dx1 := (C3.at 5 rfl (j := 1) rfl).1
          have HC3 := Lib.hid C3
          clear hF C3 HE c0 f0 c1 c2 cx cx1
          have HE := Lib.hid (HC3.out.below ((Below.refl _ (w2.setCell ⟨wp.heap.size, 0, none⟩ (.slice av1' (A.length + 1) cv1'))).alloc (Nat.le_refl _) (.cells #[.int .i64 (x1 + q), .int .i64 (x2 - q)] 34)))
          gi_wp2_with (gi_at_builtin; refine wpListIn_append_crew HE.out 4 rfl rfl (.tmp 39) (.tmp 49) 22 rfl (.agg #[.int .i64 0, .int .i64 0]) 16 Try.underlying22 infoP rfl (by decide) rfl ⟨w2.heap.size, 0, none⟩ 1 1 [.int .i64 (x1 + q), .int .i64 (x2 - q)] rfl rfl ?c1b ?c2b ?b1b ?b2b ?nextb)
          case c1b =>
            intro j u hu
            have e : w2.heap.size = (w2.setCell ⟨wp.heap.size, 0, none⟩ (.slice av1' (A.length + 1) cv1')).heap.size := by simp [World.setCell]
            rw [add_own, e, World.cell?_alloc_new]
            simpa using hu
          case c2b => intro u hu; simp at hu; rcases hu with rfl | rfl <;> rfl
          case b1b => unfold maxLen; omega
          case b2b => omega
          case nextb =>
            intro v' w4 hF
            obtain ⟨av2', cv2', rfl⟩ := hF.slice 4 rfl
            have e2 := (hF.at 2 rfl (j := 0) rfl).1
            have g2 := (hF.at 2 rfl (j := 0) rfl).2
            have C4 := hF.set 2 rfl 0 (.slice av2' (B.length + 1) cv2')
            have e0 := (C4.at 0 rfl (j := 0) rfl).1
            have h0 := (C4.at 0 rfl (j := 0) rfl).2
            have C5 := C4.set 0 rfl 0 (.int .i64 0)
            have HF := Lib.hid (groupT_shut (C5.pick [0, 1, 2, 3, 4] (by decide) rfl))
            clear hF C4 C5 HE HC3
            gi_wp2
            refine Turns.ex (.slice av1' (A.length + 1) cv1', .slice av2' (B.length + 1) cv2') ?_
            rw [E0.out, E1.out, E2.out]
            have hA : spT (.slice av1' (A.length + 1) cv1') (A ++ [(x1, q)]) = rowT 0 34 2 (.slice av1' (A.length + 1) cv1') (A.length + 1) (flatI A ++ [.int .i64 x1, .int .i64 q]) := by
              show rowT 0 34 2 _ (A ++ [(x1, q)]).length (flatI (A ++ [(x1, q)])) = _
              rw [flatI_append, List.length_append]
              rfl
            have hB : spT (.slice av2' (B.length + 1) cv2') (B ++ [(x1 + q, x2 - q)]) = rowT 0 34 2 (.slice av2' (B.length + 1) cv2') (B.length + 1) (flatI B ++ [.int .i64 (x1 + q), .int .i64 (x2 - q)]) := by
              show rowT 0 34 2 _ (B ++ [(x1 + q, x2 - q)]).length (flatI (B ++ [(x1 + q, x2 - q)])) = _
              rw [flatI_append, List.length_append]
              rfl
            rw [hA, hB]
            exact HF.out
      · -- all of it
        have hmn : min q x2 = x2 := by omega
        rw [hmn] at E0 E1 E2
        rw [if_pos (by omega)] at E1
        rw [if_neg (by omega), List.append_nil] at E2
        have hqx' : ¬ x2 < x2 := by omega
        have HE := Lib.hid (HC.out.below ((Below.refl _ W').alloc (Nat.le_refl _) (.cells #[.int .i64 x1, .int .i64 x2] 34)))
        gi_wp2_with (gi_at_builtin; refine wpListIn_append_crew HE.out 3 rfl rfl (.tmp 28) (.tmp 33) 22 rfl (.agg #[.int .i64 0, .int .i64 0]) 16 Try.underlying22 infoP rfl (by decide) rfl ⟨W'.heap.size, 0, none⟩ 1 1 [.int .i64 (x1), .int .i64 (x2)] rfl rfl ?c1c ?c2c ?b1c ?b2c ?nextc)
        case c2c => exact ⟨rfl, rfl⟩
        case b1c => unfold maxLen; omega
        case b2c => omega
        case nextc =>
          intro v' w2 hF
          obtain ⟨av1', cv1', rfl⟩ := hF.slice 3 rfl
          have d1 := (hF.at 1 rfl (j := 0) rfl).1
          have g1 := (hF.at 1 rfl (j := 0) rfl).2
          have C3 := hF.set 1 rfl 0 (.slice av1' (A.length + 1) cv1')
          have dx1 := (C3.at 5 rfl (j := 1) rfl).1
          have e0 := (C3.at 0 rfl (j := 0) rfl).1
          have h0 := (C3.at 0 rfl (j := 0) rfl).2
          have C5 := C3.set 0 rfl 0 (.int .i64 (q - x2))
          have HF := Lib.hid (groupT_shut (C5.pick [0, 1, 2, 3, 4] (by decide) rfl))
          clear hF C3 C5 HE c0 f0 c1 c2 cx cx1
          gi_wp2
          refine Turns.ex (.slice av1' (A.length + 1) cv1', .slice av2 B.length cv2) ?_
          rw [E0.out, E1.out, E2.out]
          have hA : spT (.slice av1' (A.length + 1) cv1') (A ++ [(x1, x2)]) = rowT 0 34 2 (.slice av1' (A.length + 1) cv1') (A.length + 1) (flatI A ++ [.int .i64 x1, .int .i64 x2]) := by
            show rowT 0 34 2 _ (A ++ [(x1, x2)]).length (flatI (A ++ [(x1, x2)])) = _
            rw [flatI_append, List.length_append]
            rfl
          rw [hA]
          exact HF.out
    · -- none of it
      have hq1 : q = 0 := by omega
      subst hq1
      have hmn : min (0 : Int) x2 = 0 := by omega
      rw [hmn] at E0 E1 E2
      rw [if_neg (by omega), List.append_nil] at E1
      rw [if_pos (by omega), Int.add_zero, Int.sub_zero] at E2
      have hx2 : (0 : Int) < x2 := by omega
      have HE := Lib.hid (HC.out.below ((Below.refl _ W').alloc (Nat.le_refl _) (.cells #[.int .i64 x1, .int .i64 x2] 34)))
      gi_wp2_with (gi_at_builtin; refine wpListIn_append_crew HE.out 4 rfl rfl (.tmp 39) (.tmp 49) 22 rfl (.agg #[.int .i64 0, .int .i64 0]) 16 Try.underlying22 infoP rfl (by decide) rfl ⟨W'.heap.size, 0, none⟩ 1 1 [.int .i64 (x1), .int .i64 (x2)] rfl rfl ?c1d ?c2d ?b1d ?b2d ?nextd)
      case c2d => exact ⟨rfl, rfl⟩
      case b1d => unfold maxLen; omega
      case b2d => omega
      case nextd =>
        intro v' w4 hF
        obtain ⟨av2', cv2', rfl⟩ := hF.slice 4 rfl
        have e2 := (hF.at 2 rfl (j := 0) rfl).1
        have g2 := (hF.at 2 rfl (j := 0) rfl).2
        have C4 := hF.set 2 rfl 0 (.slice av2' (B.length + 1) cv2')
        have e0 := (C4.at 0 rfl (j := 0) rfl).1
        have h0 := (C4.at 0 rfl (j := 0) rfl).2
        have C5 := C4.set 0 rfl 0 (.int .i64 0)
        have HF := Lib.hid (groupT_shut (C5.pick [0, 1, 2, 3, 4] (by decide) rfl))
        clear hF C4 C5 HE c0 f0 c1 c2 cx cx1
        gi_wp2
        refine Turns.ex (.slice av1 A.length cv1, .slice av2' (B.length + 1) cv2') ?_
        rw [E0.out, E1.out, E2.out]
        have hB : spT (.slice av2' (B.length + 1) cv2') (B ++ [(x1, x2)]) = rowT 0 34 2 (.slice av2' (B.length + 1) cv2') (B.length + 1) (flatI B ++ [.int .i64 x1, .int .i64 x2]) := by
          show rowT 0 34 2 _ (B ++ [(x1, x2)]).length (flatI (B ++ [(x1, x2)])) = _
          rw [flatI_append, List.length_append]
          rfl
        rw [hB]
        exact HF.out
  case done =>
    intro D W3 C
    obtain ⟨⟨v1, v2⟩, C⟩ := C.ex 1 rfl
    have C := C.spill 1 rfl
    obtain ⟨av1, cv1, rfl⟩ := C.slice 6 rfl
    obtain ⟨av2, cv2, rfl⟩ := C.slice 7 rfl
    have c1 := fun p => after_cell (C.at 4 rfl (j := 0) rfl).1 (C.lt 4 rfl) p
    have c2 := fun p => after_cell (C.at 5 rfl (j := 0) rfl).1 (C.lt 5 rfl) p
    have HC4 := Lib.hid C
    clear C
    have e : (castS N).filter (fun s => decide (1 ≤ s.2)) = castS N := fullL_all HCH.out.some
    rw [e] at c1 c2 HC4
    clear e
    gi_wp2
    refine wpIn_wide.2 ?_
    refine wp_region_after (by kernel_rfl) (by kernel_rfl) ?_
    repeat (go_big_quiet_step (fail))
    refine wpQuiet_nil ?_
    intro _ hw
    obtain ⟨p, rfl⟩ := hw
    have C5 := HC4.out.below p.is
    have hD := C5.obj 2 rfl
    have HC6 := Lib.hid ((C5.objPut 2 rfl (.deferred none)).pick [6, 7] (by decide) rfl)
    clear C5 HC4 c1 c2
    generalize p.to = wq at *
    gi_wp2
    refine ⟨by simp, .inl ⟨_, _, rfl, run_takeDeferred hD, ?_⟩⟩
    exact ⟨_, results_tmp3 rfl _ _ _, _, _, rfl, HC6.out⟩
  case stop =>
    intro D c pre W3 _ C
    exact (C.with 1 rfl).1.elim

end Go.Proofs.Ytcknpmlekpgafaa
