/-
  What the program's ordered answers. Conditions: as each theorem states them.
-/
import Derived.Test.YteellffkjjllgaaGreatG5
import Derived.Test.YteellffkjjllgaaGreatQSpGapM
namespace Go.Rc5

/-- Spans one behind the other, none over the one ahead. -/
def rowI (lo : Int) : List SpI → Bool
  | [] => true
  | s :: r => decide (lo ≤ s.1) && rowI (s.1 + s.2) r

theorem rowI_append (lo : Int) (l l' : List SpI) : rowI lo (l ++ l') = (rowI lo l && rowI (nxI lo l) l') := by
  induction l generalizing lo with
  | nil => rfl
  | cons t r ih => simp only [List.cons_append, rowI, nxI, ih, Bool.and_assoc]

theorem rowI_snoc (lo : Int) (l : List SpI) (s : SpI) : rowI lo (l ++ [s]) = (rowI lo l && decide (nxI lo l ≤ s.1)) := by
  rw [rowI_append]
  simp [rowI]

theorem rowI_pre {l l' : List SpI} (h : l <+: l') (hf : rowI 0 l = false) : rowI 0 l' = false := by
  obtain ⟨r, rfl⟩ := h
  rw [rowI_append, hf, Bool.false_and]

theorem rowI_cast (M : List Sp) : rowI 0 (castS M) = true ↔ InRow 0 M := by
  have key : ∀ (lo : Nat) (M : List Sp), rowI lo (castS M) = true ↔ InRow lo M := by
    intro lo M
    induction M generalizing lo with
    | nil => exact ⟨fun _ => trivial, fun _ => rfl⟩
    | cons s r ih =>
      have e : castS (s :: r) = ((s.1 : Int), (s.2 : Int)) :: castS r := rfl
      have e2 : ((s.1 : Int) + (s.2 : Int)) = ((s.1 + s.2 : Nat) : Int) := by omega
      rw [e]
      unfold rowI InRow
      dsimp only
      rw [e2, Bool.and_eq_true, ih, decide_eq_true_eq]
      constructor
      · rintro ⟨a, b⟩
        exact ⟨by omega, b⟩
      · rintro ⟨a, b⟩
        exact ⟨by omega, b⟩
  exact key 0 M

/-- All spans lie inside. -/
def Ins (l : List SpI) (size : Int) : Prop := ∀ s ∈ l, insB s size = true

theorem Ins.small {l : List SpI} {size : Int} (h : Ins l size) (h2 : size ≤ 8192) : Small l := fun s hs => by
  have := (insB_iff s size).1 (h s hs)
  omega

end Go.Rc5
namespace Go.Proofs.YteellffkjjllgaaGreat
open Go.RowKit Go.Rc5 Go.Shelf

attribute [local go_sem] Oper.semAt_some

def OrdAt (L : List SpI) (size : Int) (w : World) (e : Ending) (w' : World) : Prop :=
  (e = .returned (.tuple #[.slice none 0 0, .int .i64 11]) ∧ (∃ s ∈ L, insB s size = false) ∧ Below w.heap.size w w') ∨
  (e = .returned (.tuple #[.slice none 0 0, .int .i64 5]) ∧ Ins L size ∧ (∃ M, M.Perm L ∧ Asc M ∧ rowI 0 M = false) ∧ Below w.heap.size w w') ∨
  ∃ v M, e = .returned (.tuple #[v, .int .i64 0]) ∧ Ins L size ∧ M.Perm L ∧ Asc M ∧ rowI 0 M = true ∧ Fresh (spT v M) w w'


set_option maxRecDepth 100000 in
set_option maxHeartbeats 16000000 in
theorem ordered_any (L : List SpI) (a : Option Addr) (c len : Nat) (size : Int) (h1 : 1 ≤ size) (h2 : size ≤ 8192) (w : World) (h : SpansAt w a L) (hl : L.length = len) (hlen : len ≤ 100000) (hin : ∀ s ∈ L, In64 s.1) :
    Calls Tryz.prog 43 #[.slice a len c, .int .i64 size] w (OrdAt L size w) := by
  have H0 := ((((Crew.start w).block #[.int .i64 size] 3).block #[.slice none 0 0] 23).block #[.int .i64 0] 28).block #[.slice a len c] 23
  have hbl := H0.bel
  have HG := Lib.hid (values_gives L a c len (w.heap.size + 1 + 1 + 1) _ (by have := (H0.one (i := 3) rfl).choose_spec.1.1; simpa only [World.size_alloc] using this) w.heap.size hbl.size (spans_reads h hbl) hl (by omega))
  simp only [World.size_alloc] at H0
  have HC : Hid (Crew (fun _ => False) w [blkT (w.heap.size + 1 + 1 + 1) #[.slice a len c] 23, withT (Ins [] size) (groupT [blkT w.heap.size #[.int .i64 size] 3, blkT (w.heap.size + 1) #[.slice none 0 0] 23, blkT (w.heap.size + 1 + 1) #[.int .i64 0] 28])] ((((w.alloc (.cells #[.int .i64 size] 3)).alloc (.cells #[.slice none 0 0] 23)).alloc (.cells #[.int .i64 0] 28)).alloc (.cells #[.slice a len c] 23))) := by
    have h := Crew.grp (H0.pick [3, 0, 1, 2] (by decide) rfl)
    obtain ⟨O, ho, hset, _⟩ := h.one (i := 1) rfl
    exact hset _ _ (Turns.and (fun s hs => by cases hs) (Turns.same ho))
  have HM := Lib.hid hin
  have HS := Lib.hid (fun W (hb : Below w.heap.size w W) => SpansAt.below h hb)
  have HL := Lib.hid hl
  clear h hl hin H0 hbl
  refine (callsIn_wide (n := 3)).1 (callsIn_of_wp_marks Tryz.func43 rfl trivial ?_ rfl)
  simp only [Tryz.ntmps43, List.size_toArray, List.length_cons, List.length_nil, Nat.reduceAdd, Nat.reduceSub, Array.replicate_succ, Array.replicate_zero, List.push_toArray, List.append_toArray, List.nil_append, List.cons_append]
  gi_wp2_with (first | (refine ⟨trivial, ?_⟩; gi_at_call 64; refine (callsIn_wide.2 (sized_yes size h1 h2 _)).mono ?_; rintro e w1 ⟨rfl, rfl⟩) | (refine ⟨trivial, ?_⟩; gi_at_call 46; refine (callsIn_wide.2 (values_any _ _ _ _)).mono ?_; rintro e w1 ⟨rfl, rfl⟩))
  refine wpIn_range (gf := 72) rfl eg38 HG.out (Nat.le_refl _) (fun _ _ => rfl) (fun _ => rfl)
    (fun pre => withT (Ins pre size) (groupT [blkT w.heap.size #[.int .i64 size] 3, blkT (w.heap.size + 1) #[.slice none 0 0] 23, blkT (w.heap.size + 1 + 1) #[.int .i64 0] 28]))
    (fun cd pre => withT (cd = .ret ∧ ∃ s ∈ pre, insB s size = false) (groupT [blkT (w.heap.size + 1) #[.slice none 0 0] 23, blkT (w.heap.size + 1 + 1) #[.int .i64 11] 28]))
    (fun pre x a' => exT fun Bx : Nat => withT (Ins pre size ∧ a' = { tmps := #[.slice a len c, .int .i64 size, undef, .pointer (some ⟨w.heap.size, 0, none⟩), .pointer (some ⟨w.heap.size + 1, 0, none⟩), .pointer (some ⟨w.heap.size + 1 + 1, 0, none⟩), .pointer (some ⟨Bx, 0, none⟩), undef, undef, undef, .int .i64 size, .bool true, .bool false, .slice a len c, .func (.func 72) #[] #[.pointer (some ⟨w.heap.size + 1 + 1 + 1, 0, none⟩)], .agg #[.int .i64 x.1, .int .i64 x.2], undef, undef, undef, undef, undef, undef, undef, undef, undef, undef, undef, undef, undef, undef, undef, undef, undef, undef, undef, undef, undef], defers := [] })
      (groupT [blkT w.heap.size #[.int .i64 size] 3, blkT (w.heap.size + 1) #[.slice none 0 0] 23, blkT (w.heap.size + 1 + 1) #[.int .i64 0] 28, blkT Bx #[.int .i64 x.1, .int .i64 x.2] 38]))
    HC.out (by rintro OS _ ⟨_, rfl⟩ k (rfl | ⟨hk, _⟩); exact .inl rfl; exact .inr ⟨hk, fun h => h⟩) ?assign ?body ?done ?stop
  case assign =>
    rintro l' pre x O' W' K ⟨hno, hI⟩ hK
    have C := (groupT_open hI).block #[.int .i64 x.1, .int .i64 x.2] 38
    have HT := Lib.hid (groupT_shut C)
    have HK := Lib.hid hK
    have HNO := Lib.hid hno
    clear C hI hK hno
    dsimp only [encS]
    gi_wp2
    exact HK.out _ _ (Turns.ex W'.heap.size (Turns.and ⟨HNO.out, rfl⟩ HT.out))
  case body =>
    rintro l' pre x a' O' W' hpre ⟨Bx, ⟨hno, rfl⟩, hgrp⟩
    have C := groupT_open hgrp
    have hx1 : x.1 ≤ 9223372036854775807 := (HM.out x (hpre.subset (by simp))).2
    have HNO := Lib.hid hno
    obtain ⟨x1, x2⟩ := x
    dsimp only at hx1
    have cz := (C.at 0 rfl (j := 0) rfl).1
    have cx := (C.at 3 rfl (j := 0) rfl).1
    have cx1 := (C.at 3 rfl (j := 1) rfl).1
    have HC := Lib.hid C
    clear C hgrp hpre hno
    dsimp only at cx cx1
    cases hb : insB (x1, x2) size with
    | false =>
      have HX : Hid (∃ s ∈ pre ++ [(x1, x2)], insB s size = false) := ⟨(x1, x2), by simp, hb⟩
      gi_wp2_with (refine ⟨trivial, ?_⟩; gi_at_call 65; refine (CallsIn.inRound l' (callsIn_wide.2 (within_any x1 x2 size h1 h2 hx1 _))).mono ?_; rintro e w4 ⟨rfl, hb4⟩; rw [hb]; have C4 := HC.out.below hb4; have cr := (C4.at 1 rfl (j := 0) rfl).1; have fr := (C4.at 1 rfl (j := 0) rfl).2; have cs := (C4.at 2 rfl (j := 0) rfl).1; have fs := (C4.at 2 rfl (j := 0) rfl).2; have C5 := C4.set 1 rfl 0 (.slice none 0 0); have cs2 := (C5.at 2 rfl (j := 0) rfl).1; have fs2 := (C5.at 2 rfl (j := 0) rfl).2; have HC5 := Lib.hid (groupT_shut ((C5.set 2 rfl 0 (.int .i64 11)).pick [1, 2] (by decide) rfl)); clear C4 C5)
      exact Turns.and ⟨rfl, HX.out⟩ HC5.out
    | true =>
      have HX : Hid (Ins (pre ++ [(x1, x2)]) size) := fun s hs => by
        rcases List.mem_append.1 hs with hs | hs
        · exact HNO.out s hs
        · rw [List.mem_singleton.1 hs]; exact hb
      gi_wp2_with (refine ⟨trivial, ?_⟩; gi_at_call 65; refine (CallsIn.inRound l' (callsIn_wide.2 (within_any x1 x2 size h1 h2 hx1 _))).mono ?_; rintro e w4 ⟨rfl, hb4⟩; rw [hb]; have HC5 := Lib.hid (groupT_shut ((HC.out.below hb4).pick [0, 1, 2] (by decide) rfl)))
      exact Turns.and HX.out HC5.out
  case done =>
    intro D W3 C
    obtain ⟨hno, C⟩ := C.with 1 rfl
    have C := C.spill 1 rfl
    have HINS := Lib.hid hno
    have HSP := Lib.hid (HS.out _ C.bel)
    have HC := Lib.hid C
    clear C hno
    gi_wp2_with (first | (refine ⟨trivial, ?_⟩; gi_at_call 66; refine (callsIn_wide.2 (clone_any L a c len _ HSP.out HL.out hlen)).mono ?_; rintro e w4 ⟨v, rfl, hF⟩; have C4 := HC.out.more hF; obtain ⟨av, cv, rfl⟩ := C4.slice 6 rfl; have HC4 := Lib.hid C4; clear C4 hF) | (refine ⟨trivial, ?_⟩; gi_at_call 67; refine (callsIn_wide.2 (sort_any L _ _ _ _ _ 6 HC4.out rfl (by have := HL.out; omega))).mono ?_; rintro e w5 ⟨rfl, M, hp, ha, hC⟩; have HC5 := Lib.hid hC; have HP := Lib.hid hp; have HA := Lib.hid ha; clear hC hp ha) | (refine ⟨trivial, ?_⟩; gi_at_call 46; refine (callsIn_wide.2 (values_any _ _ _ _)).mono ?_; rintro e w1 ⟨rfl, rfl⟩))
    have HML : Hid (M.length = L.length) := HP.out.length_eq
    have C6 := (HC5.out.block #[.int .i64 0] 3).block #[.slice av L.length cv] 23
    have hb6 := (C6.one (i := 8) rfl).choose_spec.1.1
    have hsp6 : SpansAt ((w5.alloc (.cells #[.int .i64 0] 3)).alloc (.cells #[.slice av L.length cv] 23)) av M := by
      have := C6.own 6 rfl
      rw [show (spT (.slice av L.length cv) M) = rowT 0 38 2 (.slice av L.length cv) M.length (flatI M) from rfl] at *
      rw [HML.out] at this
      exact (spans_own this).2
    have HG2 := Lib.hid (values_gives M av cv L.length (w5.heap.size + 1) _ (by simpa only [World.size_alloc] using hb6) _ (Nat.le_refl _) (fun W' hk => SpansAt.same hsp6 hk) HML.out (by have := HL.out; omega))
    clear hb6 hsp6
    simp only [World.size_alloc] at C6
    have HC6 : Hid (Crew (fun _ => False) w [groupT [blkT (w5.heap.size + 1) #[.slice av L.length cv] 23, spT (.slice av L.length cv) M, objT D (.deferred (some []))], withT (rowI 0 [] = true) (groupT [blkT (w.heap.size + 1) #[.slice none 0 0] 23, blkT (w.heap.size + 1 + 1) #[.int .i64 0] 28, blkT w5.heap.size #[.int .i64 0] 3])] ((w5.alloc (.cells #[.int .i64 0] 3)).alloc (.cells #[.slice av L.length cv] 23))) := by
      have h := Crew.grp (Crew.bunch (l1 := [blkT (w5.heap.size + 1) #[.slice av L.length cv] 23, spT (.slice av L.length cv) M, objT D (.deferred (some []))]) (l2 := [blkT (w.heap.size + 1) #[.slice none 0 0] 23, blkT (w.heap.size + 1 + 1) #[.int .i64 0] 28, blkT w5.heap.size #[.int .i64 0] 3]) (C6.pick [8, 6, 2, 4, 5, 7] (by decide) rfl))
      obtain ⟨O, ho, hset, _⟩ := h.one (i := 1) rfl
      exact hset _ _ (Turns.and rfl (Turns.same ho))
    clear C6
    refine wpIn_range (gf := 72) rfl eg38 HG2.out (Nat.le_refl _) (fun _ _ => rfl) (fun _ => rfl)
      (fun pre => withT (rowI 0 pre = true) (groupT [blkT (w.heap.size + 1) #[.slice none 0 0] 23, blkT (w.heap.size + 1 + 1) #[.int .i64 0] 28, blkT w5.heap.size #[.int .i64 (nxI 0 pre)] 3]))
      (fun cd pre => withT (cd = .ret ∧ rowI 0 pre = false) (groupT [blkT (w.heap.size + 1) #[.slice none 0 0] 23, blkT (w.heap.size + 1 + 1) #[.int .i64 5] 28]))
      (fun pre x a' => exT fun Bx : Nat => withT (rowI 0 pre = true ∧ a' = { tmps := #[.slice a len c, .int .i64 size, undef, .pointer (some ⟨w.heap.size, 0, none⟩), .pointer (some ⟨w.heap.size + 1, 0, none⟩), .pointer (some ⟨w.heap.size + 1 + 1, 0, none⟩), undef, .slice av L.length cv, .pointer (some ⟨w5.heap.size, 0, none⟩), .pointer (some ⟨Bx, 0, none⟩), .int .i64 size, .bool true, .bool false, .slice a len c, .func (.func 72) #[] #[.pointer (some ⟨w.heap.size + 1 + 1 + 1, 0, none⟩)], undef, undef, undef, undef, undef, .slice a len c, .slice av L.length cv, .slice av L.length cv, .tuple #[], .slice av L.length cv, .func (.func 72) #[] #[.pointer (some ⟨w5.heap.size + 1, 0, none⟩)], .agg #[.int .i64 x.1, .int .i64 x.2], undef, undef, undef, undef, undef, undef, undef, undef, undef, undef], defers := [] })
        (groupT [blkT (w.heap.size + 1) #[.slice none 0 0] 23, blkT (w.heap.size + 1 + 1) #[.int .i64 0] 28, blkT w5.heap.size #[.int .i64 (nxI 0 pre)] 3, blkT Bx #[.int .i64 x.1, .int .i64 x.2] 38]))
      HC6.out ?cover ?assign2 ?body2 ?done2 ?stop2
    case cover =>
      rintro OS W ⟨Os, hs, _, rfl⟩ k hk
      left
      rcases hk with rfl | ⟨_, x, rfl, rfl⟩
      · refine ⟨0, by simp, ?_⟩
        rw [(hs 0 _ rfl).2]
      · refine ⟨1, by simp, ?_⟩
        obtain ⟨ho, e⟩ := hs 1 _ rfl
        rw [e]
        rcases ho.2 with ⟨h, _⟩ | ⟨g, cap, cur, h, _⟩
        · cases h
        · injection h with e1 _ _
          injection e1 with e1
          subst e1
          rfl
    case assign2 =>
      rintro l' pre x O' W' K ⟨hno, hI⟩ hK
      have C := (groupT_open hI).block #[.int .i64 x.1, .int .i64 x.2] 38
      have HT := Lib.hid (groupT_shut C)
      have HK := Lib.hid hK
      have HNO := Lib.hid hno
      clear C hI hK hno
      dsimp only [encS]
      gi_wp2
      exact HK.out _ _ (Turns.ex W'.heap.size (Turns.and ⟨HNO.out, rfl⟩ HT.out))
    case body2 =>
      rintro l' pre x a' O' W' hpre ⟨Bx, ⟨hno, rfl⟩, hgrp⟩
      have C := groupT_open hgrp
      have hsm : Small (pre ++ [x]) := fun s hs => (Ins.small HINS.out h2) s (HP.out.mem_iff.1 (hpre.subset hs))
      have hq := nxI_small (l := pre) (fun s hs => hsm s (List.mem_append_left _ hs))
      have hxx := hsm x (by simp)
      have HN := Lib.hid (nxI_snoc 0 pre x)
      have HR := Lib.hid (rowI_snoc 0 pre x)
      rw [hno, Bool.true_and] at HR
      obtain ⟨x1, x2⟩ := x
      have cr := (C.at 0 rfl (j := 0) rfl).1
      have fr := (C.at 0 rfl (j := 0) rfl).2
      have cs := (C.at 1 rfl (j := 0) rfl).1
      have fs := (C.at 1 rfl (j := 0) rfl).2
      have ce := (C.at 2 rfl (j := 0) rfl).1
      have fe := (C.at 2 rfl (j := 0) rfl).2
      have cx := (C.at 3 rfl (j := 0) rfl).1
      have cx1 := (C.at 3 rfl (j := 1) rfl).1
      have HC := Lib.hid C
      clear C hgrp hpre hno hsm
      dsimp only at HN HR hxx cx cx1
      generalize nxI 0 pre = q at *
      by_cases b2 : q ≤ x1
      · rw [decide_eq_true b2] at HR
        have b2' : ¬ x1 < q := by omega
        have C5 := HC.out.set 2 rfl 0 (.int .i64 (x1 + x2))
        have HC5 : Hid (Turns (groupT [blkT (w.heap.size + 1) #[.slice none 0 0] 23, blkT (w.heap.size + 1 + 1) #[.int .i64 0] 28, blkT w5.heap.size #[.int .i64 (nxI 0 (pre ++ [(x1, x2)]))] 3]) O' W' (W'.setCell ⟨w5.heap.size, 0, none⟩ (.int .i64 (x1 + x2)))) := by
          unfold Hid
          rw [HN.out]
          exact groupT_shut (C5.pick [0, 1, 2] (by decide) rfl)
        clear C5
        gi_wp2
        exact Turns.and HR.out HC5.out
      · rw [decide_eq_false b2] at HR
        have b2' : x1 < q := by omega
        have C5 := HC.out.set 0 rfl 0 (.slice none 0 0)
        have cs2 := (C5.at 1 rfl (j := 0) rfl).1
        have fs2 := (C5.at 1 rfl (j := 0) rfl).2
        have HC5 := Lib.hid (groupT_shut ((C5.set 1 rfl 0 (.int .i64 5)).pick [0, 1] (by decide) rfl))
        clear C5
        gi_wp2
        exact Turns.and ⟨rfl, HR.out⟩ HC5.out
    case done2 =>
      intro D2 W7 C
      obtain ⟨hno, C⟩ := C.with 1 rfl
      have C := (C.spill 1 rfl).spill 0 rfl
      have cr := (C.at 3 rfl (j := 0) rfl).1
      have fr := (C.at 3 rfl (j := 0) rfl).2
      have C2 := C.set 3 rfl 0 (.slice av L.length cv)
      have cs := (C2.at 4 rfl (j := 0) rfl).1
      have fs := (C2.at 4 rfl (j := 0) rfl).2
      have C3 := C2.set 4 rfl 0 (.int .i64 0)
      have hD2 := C3.obj 2 rfl
      have C4 := C3.objPut 2 rfl (.deferred none)
      have hD := C4.obj 8 rfl
      have C5 := C4.objPut 8 rfl (.deferred none)
      have cr2 := (C5.at 3 rfl (j := 0) rfl).1
      have cs2 := (C5.at 4 rfl (j := 0) rfl).1
      have HF := Lib.hid (C5.pick [7] (by decide) rfl).fresh
      have HSN := Lib.hid hno
      clear C C2 C3 C4 C5 hno
      gi_wp2
      refine ⟨by simp, .inl ⟨_, _, rfl, run_takeDeferred hD2, ⟨by simp, .inl ⟨_, _, rfl, run_takeDeferred hD, ?_⟩⟩⟩⟩
      exact ⟨_, results_cell2 rfl _ _ _ _ _ _ rfl rfl Tryz.isAgg23 Tryz.isAgg28 cr2 cs2, .inr (.inr ⟨_, M, rfl, HINS.out, HP.out, HA.out, HSN.out, HF.out⟩)⟩
    case stop2 =>
      intro D2 cd pre W7 hpre C
      obtain ⟨⟨rfl, hy⟩, C⟩ := C.with 1 rfl
      have C := (C.spill 1 rfl).spill 0 rfl
      have hD2 := C.obj 2 rfl
      have C4 := C.objPut 2 rfl (.deferred none)
      have hD := C4.obj 7 rfl
      have C5 := C4.objPut 7 rfl (.deferred none)
      have cr2 := (C5.at 3 rfl (j := 0) rfl).1
      have cs2 := (C5.at 4 rfl (j := 0) rfl).1
      have HB := Lib.hid C5.bel
      have HSN : Hid (rowI 0 M = false) := rowI_pre hpre hy
      clear C C4 C5 hy hpre
      gi_wp2
      refine ⟨by simp, .inl ⟨_, _, rfl, run_takeDeferred hD2, ⟨by simp, .inl ⟨_, _, rfl, run_takeDeferred hD, ?_⟩⟩⟩⟩
      exact ⟨_, results_cell2 rfl _ _ _ _ _ _ rfl rfl Tryz.isAgg23 Tryz.isAgg28 cr2 cs2, .inr (.inl ⟨rfl, HINS.out, ⟨M, HP.out, HA.out, HSN.out⟩, HB.out⟩)⟩
  case stop =>
    intro D cd pre W3 hpre C
    obtain ⟨⟨rfl, hy⟩, C⟩ := C.with 1 rfl
    have C := C.spill 1 rfl
    have hD := C.obj 2 rfl
    have C4 := C.objPut 2 rfl (.deferred none)
    have cr2 := (C4.at 3 rfl (j := 0) rfl).1
    have cs2 := (C4.at 4 rfl (j := 0) rfl).1
    have HB := Lib.hid C4.bel
    have HSN : Hid (∃ s ∈ L, insB s size = false) := by
      obtain ⟨s, hs, e⟩ := hy
      exact ⟨s, hpre.subset hs, e⟩
    clear C C4 hy hpre
    gi_wp2
    refine ⟨by simp, .inl ⟨_, _, rfl, run_takeDeferred hD, ?_⟩⟩
    exact ⟨_, results_cell2 rfl _ _ _ _ _ _ rfl rfl Tryz.isAgg23 Tryz.isAgg28 cr2 cs2, .inl ⟨rfl, HSN.out, HB.out⟩⟩

end Go.Proofs.YteellffkjjllgaaGreat
