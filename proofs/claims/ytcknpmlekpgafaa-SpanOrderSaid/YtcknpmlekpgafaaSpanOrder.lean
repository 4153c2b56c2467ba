/-
  SpanOrder: for every input the law answers true: the order of a row, and how its sectors are cut into spans, do not matter. Conditions: none.
-/
import Derived.Test.YtcknpmlekpgafaaSpApp
import Derived.Test.YtcknpmlekpgafaaSpOut
namespace Go.Proofs.Ytcknpmlekpgafaa.spanOrder
open Go.ChangeShapes Go.WideShapes Go.ChangeAt Go.RowKit Go.Rc5
open Go.ChangeMaps (open_string shut_string)

/-- Where a row lies that is cut off at its k-th: at its end nothing is moved. -/
def cutAddr (x : Addr) (cap k : Nat) : Option Addr := if cap = k then some x else some (x.add (k * 2))

theorem cutAddr_some (x : Addr) (cap k : Nat) {c : Nat} (h : cutAddr x cap k = none) : c = 0 := by
  unfold cutAddr at h
  split at h <;> cases h

theorem spans_cut {w : World} {x : Addr} {L : List SpI} {cap k : Nat} (h : SpansAt w (some x) L) (hl : L.length ≤ cap) : SpansAt w (cutAddr x cap k) (L.drop k) := by
  unfold cutAddr
  split
  · rename_i e
    rw [List.drop_eq_nil_of_le (by omega)]
    exact fun _ hi => absurd hi (Nat.not_lt_zero _)
  · exact spans_drop h k

set_option maxRecDepth 100000 in
set_option maxHeartbeats 4000000 in
theorem long (a0 : Option Addr) (len0 cap0 : Nat) (a1 a2 a3 : Int) (w : World) (hl : ¬ len0 ≤ 40) :
    Calls Try.prog 7 #[.slice a0 len0 cap0, .int .i64 a1, .int .i64 a2, .int .i64 a3] w fun e w' => e = .returned (.bool true) ∧ Below w.heap.size w w' := by
  have hI : (40 : Int) < len0 := by omega
  have HSH := Lib.hid (shown_any w)
  go_enter Try.func7, Try.ntmps7
  go_wp2_with fail
  refine HSH.out.mono ?_
  rintro e w1 ⟨rfl, hb1⟩
  go_wp2
  go_ret
  exact ⟨rfl, hb1⟩

set_option maxRecDepth 100000 in
set_option maxHeartbeats 4000000 in
theorem empty (a0 : Option Addr) (cap0 : Nat) (a1 a2 a3 : Int) (w : World) :
    Calls Try.prog 7 #[.slice a0 0 cap0, .int .i64 a1, .int .i64 a2, .int .i64 a3] w fun e w' => e = .returned (.bool true) ∧ Below w.heap.size w w' := by
  have HSH := Lib.hid (shown_any w)
  go_enter Try.func7, Try.ntmps7
  go_wp2_with fail
  refine HSH.out.mono ?_
  rintro e w1 ⟨rfl, hb1⟩
  go_wp2
  go_ret
  exact ⟨rfl, hb1⟩

set_option maxRecDepth 100000 in
set_option maxHeartbeats 8000000 in
theorem bad (x : Addr) (len0 cap0 : Nat) (z0 : List SpI) (a1 a2 a3 m1 m2 : Int) (k1 k2 : Nat) (w : World) (h0 : IsSpansC w (some x) len0 cap0 z0) (hl : len0 ≤ 40) (hl1 : 1 ≤ len0) (hb : Bad z0 a1)
    (e1 : min a2 (len0 : Int) = m1) (e2 : max 0 m1 = (k1 : Int)) (hk1 : k1 ≤ len0) (e3 : min a3 ((len0 : Int) - 1) = m2) (e4 : max 0 m2 = (k2 : Int)) (hk2 : k2 < len0) :
    Calls Try.prog 7 #[.slice (some x) len0 cap0, .int .i64 a1, .int .i64 a2, .int .i64 a3] w fun e w' => e = .returned (.bool true) ∧ Below w.heap.size w w' := by
  obtain ⟨⟨hlen, hsp, hi0⟩, hcap, hmax⟩ := h0
  unfold maxLen at hmax
  have HIN : Hid (∀ s ∈ z0, In64 s.1) := fun s hs => (hi0 s hs).1
  clear hi0
  have hI : ¬ (40 : Int) < len0 := by omega
  have hI0 : ((len0 : Int) == 0) = false := by simp; omega
  have HSH := Lib.hid (shown_any w)
  have HS := Lib.hid (fun W (hb : Below w.heap.size w W) => SpansAt.below hsp hb)
  have HL := Lib.hid hlen
  have HH := Lib.hid hb
  clear hsp hlen hb
  go_enter Try.func7, Try.ntmps7
  go_wp2_with fail
  refine HSH.out.mono ?_
  rintro e w1 ⟨rfl, hb1⟩
  have HW := Lib.hid hb1
  clear hb1 HSH
  go_wp2_with fail
  refine (pnorm_bad z0 (some x) cap0 len0 a1 w1 (HS.out _ HW.out) HL.out (by omega) HH.out HIN.out).mono ?_
  rintro e w2 ⟨rfl, hb⟩
  replace HW := Lib.hid (below_trans HW.out hb)
  clear hb
  go_wp2
  have hkc : k1 ≤ cap0 := Nat.le_trans hk1 hcap
  have HE := Lib.hid ((((Crew.start w).below HW.out).below (Below.refl _ w2).drew).empty 34 2)
  go_region_law
    (first
      | (refine step_append_spans (M := []) (L := z0.drop k1) HE.out 0 rfl (by rfl) (.tmp 45) (.tmp 48) (by rfl) (by simp [Act.eval]) (cutAddr x cap0 k1) (len0 - k1) (cap0 - k1) (by simp [Act.eval, cutAddr]) (spans_cut (HS.out _ HE.out.bel) (by rw [HL.out]; exact hcap)) (by rw [List.length_drop, HL.out]) (cutAddr_some x cap0 k1) (by simp; omega) ?_; intro v7 w7 hF; have HF := Lib.hid hF; clear hF)
      | (refine step_append_spans (M := [] ++ z0.drop k1) (L := z0.take k1) HF.out 0 rfl (by rfl) (.tmp 49) (.tmp 52) (by rfl) (by simp [Act.eval]) (some x) k1 cap0 (by simp [Act.eval]) (spans_take (HS.out _ HF.out.bel) k1) (by rw [List.length_take, HL.out]; omega) (fun h => by cases h) (by simp [HL.out]; omega) ?_; intro v8 w8 hF; replace HF := Lib.hid hF; clear hF))
  obtain ⟨T, hT⟩ : ∃ T, z0.drop k1 ++ z0.take k1 = T := ⟨_, rfl⟩
  have HTL : Hid (T.length = len0) := by
    show T.length = len0
    rw [← hT, List.length_append, List.length_drop, List.length_take, HL.out]
    omega
  have HTB : Hid (Bad T a1) := by
    show Bad T a1
    rw [← hT]
    exact bad_turned HH.out k1
  have HTI : Hid (∀ s ∈ T, In64 s.1) := by
    show ∀ s ∈ T, In64 s.1
    rw [← hT]
    exact fun s hs => HIN.out s (mem_turned hs)
  have hC : Crew (fun _ => False) w [spT v8 T] w8 := by
    rw [← hT]
    exact HF.out
  have hC1 : w8.ownsRow 0 34 2 v8 len0 (flatI T) := by
    have := hC.own 0 rfl
    rw [HTL.out] at this
    exact this
  obtain ⟨a8, c8, rfl⟩ := own_slice hC1
  have HTS := Lib.hid (spans_own hC1).2
  replace HW := Lib.hid hC.bel
  clear hC hC1 HF hT
  simp only [List.getElem_toArray, List.getElem_cons_succ, List.getElem_cons_zero, Act.put, List.setIfInBounds_toArray, List.set_cons_succ, List.set_cons_zero]
  generalize (if cap0 = k1 then some x else some (x.add (k1 * 2))) = y
  go_wp2_with fail
  refine (pnorm_bad T a8 c8 len0 a1 w8 HTS.out HTL.out (by omega) HTB.out HTI.out).mono ?_
  rintro e w9 ⟨rfl, hb⟩
  replace HW := Lib.hid (below_trans HW.out hb)
  clear hb
  go_wp2_with fail
  have C := same_any [] [] none none 0 0 0 0 w9 (spans_none _) (spans_none _) rfl rfl (by omega)
  rw [decide_eq_true rfl] at C
  refine C.mono ?_
  clear C
  rintro e w10 ⟨rfl, hb⟩
  replace HW := Lib.hid (below_trans HW.out hb)
  clear hb
  obtain ⟨x', hx', c0, c1⟩ := (HS.out _ HW.out) k2 (by rw [HL.out]; exact hk2)
  cases hx'
  generalize z0.getD k2 (0, 0) = s at c0 c1
  obtain ⟨s0, s1⟩ := s
  dsimp only at c0 c1
  by_cases hs : s1 < 2
  · go_wp2
    go_ret
    exact ⟨rfl, HW.out⟩
  · go_wp2
    go_ret
    exact ⟨rfl, HW.out⟩

set_option maxRecDepth 100000 in
set_option maxHeartbeats 8000000 in
theorem fit (x : Addr) (len0 cap0 : Nat) (N : List Sp) (n : Nat) (R : List Sp) (E : Int) (a2 a3 m1 m2 : Int) (k1 k2 : Nat) (w : World) (h0 : IsSpansC w (some x) len0 cap0 (castS N)) (hl : len0 ≤ 40) (hl1 : 1 ≤ len0) (hf : Fits (castS N) N n) (ho : Out N n R E)
    (e1 : min a2 (len0 : Int) = m1) (e2 : max 0 m1 = (k1 : Int)) (hk1 : k1 ≤ len0) (e3 : min a3 ((len0 : Int) - 1) = m2) (e4 : max 0 m2 = (k2 : Int)) (hk2 : k2 < len0) :
    Calls Try.prog 7 #[.slice (some x) len0 cap0, .int .i64 n, .int .i64 a2, .int .i64 a3] w fun e w' => e = .returned (.bool true) ∧ Below w.heap.size w w' := by
  obtain ⟨⟨hlen, hsp, _⟩, hcap, hmax⟩ := h0
  unfold maxLen at hmax
  rw [castS_length] at hlen
  have hI : ¬ (40 : Int) < len0 := by omega
  have hI0 : ((len0 : Int) == 0) = false := by simp; omega
  have hE : (E == 11) = false := by simp [ho.err]
  have hn8 := hf.hi
  have hRL := ho.len
  have HSH := Lib.hid (shown_any w)
  have HS := Lib.hid (fun W (hb : Below w.heap.size w W) => SpansAt.below hsp hb)
  have HL := Lib.hid hlen
  have HH := Lib.hid hf
  have HO := Lib.hid ho
  clear hsp hlen hf ho
  go_enter Try.func7, Try.ntmps7
  go_wp2_with fail
  refine HSH.out.mono ?_
  rintro e w1 ⟨rfl, hb1⟩
  have HW := Lib.hid hb1
  clear hb1 HSH
  go_wp2_with fail
  refine (norm_out N n R E (some x) cap0 len0 w1 (HS.out _ HW.out) HL.out (by omega) HH.out HO.out).mono ?_
  rintro e w2 ⟨b0, c0, rfl, hs, hb⟩
  replace HW := Lib.hid (below_trans HW.out hb)
  have HR := Lib.hid hs
  clear hb hs
  have hkc : k1 ≤ cap0 := Nat.le_trans hk1 hcap
  go_wp2
  have HE := Lib.hid (((Crew.start w2).below (Below.refl _ w2).drew).empty 34 2)
  go_region_law
    (first
      | (refine step_append_spans (M := []) (L := (castS N).drop k1) HE.out 0 rfl (by rfl) (.tmp 45) (.tmp 48) (by rfl) (by simp [Act.eval]) (cutAddr x cap0 k1) (len0 - k1) (cap0 - k1) (by simp [Act.eval, cutAddr]) (spans_cut (HS.out _ (below_trans HW.out HE.out.bel)) (by rw [castS_length, HL.out]; exact hcap)) (by rw [List.length_drop, castS_length, HL.out]) (cutAddr_some x cap0 k1) (by simp; omega) ?_; intro v7 w7 hF; have HF := Lib.hid hF; clear hF)
      | (refine step_append_spans (M := [] ++ (castS N).drop k1) (L := (castS N).take k1) HF.out 0 rfl (by rfl) (.tmp 49) (.tmp 52) (by rfl) (by simp [Act.eval]) (some x) k1 cap0 (by simp [Act.eval]) (spans_take (HS.out _ (below_trans HW.out HF.out.bel)) k1) (by rw [List.length_take, castS_length, HL.out]; omega) (fun h => by cases h) (by simp [castS_length, HL.out]; omega) ?_; intro v8 w8 hF; replace HF := Lib.hid hF; clear hF))
  have HTH := Lib.hid (fits_turned HH.out k1)
  have HTO := Lib.hid (out_turned HH.out HO.out k1)
  have HTL : Hid ((N.drop k1 ++ N.take k1).length = len0) := by
    show (N.drop k1 ++ N.take k1).length = len0
    rw [List.length_append, List.length_drop, List.length_take, HL.out]
    omega
  have hC : Crew (fun _ => False) w2 [spT v8 (castS (N.drop k1 ++ N.take k1))] w8 := by
    rw [← castS_turned]
    exact HF.out
  clear HF
  generalize N.drop k1 ++ N.take k1 = T at *
  have hC1 : w8.ownsRow 0 34 2 v8 len0 (flatI (castS T)) := by
    have := hC.own 0 rfl
    rw [castS_length, HTL.out] at this
    exact this
  obtain ⟨a8, c8, rfl⟩ := own_slice hC1
  have HTS := Lib.hid (spans_own hC1).2
  replace HW := Lib.hid (below_trans HW.out hC.bel)
  replace HR := Lib.hid (SpansAt.below HR.out hC.bel)
  clear hC hC1
  simp only [List.getElem_toArray, List.getElem_cons_succ, List.getElem_cons_zero, Act.put, List.setIfInBounds_toArray, List.set_cons_succ, List.set_cons_zero]
  generalize (if cap0 = k1 then some x else some (x.add (k1 * 2))) = y
  go_wp2_with fail
  refine (norm_out T n R E a8 c8 len0 w8 HTS.out HTL.out (by omega) HTH.out HTO.out).mono ?_
  rintro e w9 ⟨b1, c1, rfl, hs, hb⟩
  replace HW := Lib.hid (below_trans HW.out hb)
  replace HR := Lib.hid (SpansAt.below HR.out hb)
  have HR1 := Lib.hid hs
  clear hb hs HTS
  go_wp2_with fail
  have C := same_any (castS R) (castS R) b0 b1 c0 c1 R.length R.length w9 HR.out HR1.out (castS_length R) (castS_length R) (by omega)
  rw [decide_eq_true rfl] at C
  refine C.mono ?_
  clear C
  rintro e w10 ⟨rfl, hb⟩
  replace HW := Lib.hid (below_trans HW.out hb)
  replace HR := Lib.hid (SpansAt.below HR.out hb)
  clear hb HR1
  obtain ⟨x', hx', d0, d1⟩ := (HS.out _ HW.out) k2 (by rw [castS_length, HL.out]; exact hk2)
  cases hx'
  rw [castS_getD] at d0 d1
  have HKM : Hid (N.getD k2 (0, 0) ∈ N) := by
    show N.getD k2 (0, 0) ∈ N
    have hk : k2 < N.length := by rw [HL.out]; exact hk2
    rw [List.getD_eq_getElem?_getD, List.getElem?_eq_getElem hk]
    exact List.getElem_mem _
  obtain ⟨s0, s1, hs⟩ : ∃ s0 s1, N.getD k2 (0, 0) = (s0, s1) := ⟨_, _, rfl⟩
  have HSK := Lib.hid hs
  rw [hs] at d0 d1
  dsimp only at d0 d1
  clear hs
  by_cases hs : (s1 : Int) < 2
  · go_wp2
    go_ret
    exact ⟨rfl, HW.out⟩
  · have hs8 : (s1 : Int) ≤ 8192 := by
      have h1 := HH.out.fit _ HKM.out
      rw [HSK.out] at h1
      dsimp only at h1
      omega
    have hs9 : (s0 : Int) + s1 ≤ 8192 := by
      have h1 := HH.out.fit _ HKM.out
      rw [HSK.out] at h1
      dsimp only at h1
      omega
    have HE3 := Lib.hid ((Crew.start w10).empty 34 2)
    go_wp2_with (at_builtin; refine wpList_append_spans (M := []) (L := castS N) HE3.out 0 rfl rfl (.tmp 85) (.tmp 86) rfl rfl (some x) len0 cap0 rfl (HS.out _ (below_trans HW.out HE3.out.bel)) (by rw [castS_length, HL.out]) (fun h => by cases h) (by simp; omega) ?nx)
    case nx =>
      intro v11 w11 hc
      have hc1 : Crew (fun _ => False) w10 [rowT 0 34 2 v11 len0 (flatI (castS N))] w11 := by
        have e : (castS N).length = len0 := by rw [castS_length, HL.out]
        have : Crew (fun _ => False) w10 [spT v11 (castS N)] w11 := by simpa using hc
        rw [← e]
        exact this
      obtain ⟨g, c11, rfl⟩ := hc1.held 0 rfl (by omega)
      obtain ⟨f0, f1⟩ := flatI_at (castS N) k2 (by rw [castS_length, HL.out]; exact hk2)
      obtain ⟨y1, y2⟩ := hc1.cell 0 rfl f1
      have HC := Lib.hid hc1
      have d3 := (HS.out _ (below_trans HW.out hc1.bel)) k2 (by rw [castS_length, HL.out]; exact hk2)
      obtain ⟨x', hx', d2, d3⟩ := d3
      cases hx'
      rw [castS_getD, HSK.out] at d2 d3
      dsimp only at d2 d3
      clear hc hc1 d0 d1 f0 f1
      go_wp2
      have hP := HC.out.put 0 rfl (k2 * 2 + 1) (.int .i64 ((s1 : Int) - 1))
      rw [flatI_set1 _ _ (by rw [castS_length, HL.out]; exact hk2), castS_getD, HSK.out] at hP
      have HDL : Hid (((castS N).set k2 ((s0 : Int), (s1 : Int) - 1)).length = len0) := by
        show ((castS N).set k2 ((s0 : Int), (s1 : Int) - 1)).length = len0
        rw [List.length_set, castS_length, HL.out]
      have HDC : Hid ((castS N).set k2 ((s0 : Int), (s1 : Int) - 1) ++ [((s0 : Int) + s1 - 1, 1)] = castS (cutAt N k2)) := by
        have h := castS_cut N k2 (by rw [HSK.out]; show 2 ≤ s1; omega)
        rw [HSK.out] at h
        exact h
      replace hP : Crew (fun _ => False) w10 [spT (.slice (some ⟨g, 0, none⟩) len0 c11) ((castS N).set k2 ((s0 : Int), (s1 : Int) - 1))] (w11.setCell ⟨g, k2 * 2 + 1, none⟩ (.int .i64 ((s1 : Int) - 1))) := by
        show Crew (fun _ => False) w10 [rowT 0 34 2 (.slice (some ⟨g, 0, none⟩) len0 c11) ((castS N).set k2 ((s0 : Int), (s1 : Int) - 1)).length (flatI ((castS N).set k2 ((s0 : Int), (s1 : Int) - 1)))] (w11.setCell ⟨g, k2 * 2 + 1, none⟩ (.int .i64 ((s1 : Int) - 1)))
        rw [HDL.out]
        exact hP
      clear HC y1 y2 d2 d3
      generalize w11.setCell ⟨g, k2 * 2 + 1, none⟩ (.int .i64 ((s1 : Int) - 1)) = w12 at hP ⊢
      obtain ⟨x', hx', d0, d1⟩ := (HS.out _ (below_trans HW.out hP.bel)) k2 (by rw [castS_length, HL.out]; exact hk2)
      cases hx'
      rw [castS_getD, HSK.out] at d0 d1
      dsimp only at d0 d1
      have HF : Hid (Crew (fun _ => False) w10 [spT (.slice (some ⟨g, 0, none⟩) len0 c11) ((castS N).set k2 ((s0 : Int), (s1 : Int) - 1))] (w12.drew.alloc (.cells #[.int .i64 ((s0 : Int) + s1 - 1), .int .i64 1] 34))) :=
        (hP.below (Below.refl _ w12).drew).below ((Below.refl _ w12.drew).alloc (Nat.le_refl _) _)
      have HSL : Hid (SpansAt (w12.drew.alloc (.cells #[.int .i64 ((s0 : Int) + s1 - 1), .int .i64 1] 34)) (some ⟨w12.drew.heap.size, 0, none⟩) [((s0 : Int) + s1 - 1, 1)]) := spans_lit [((s0 : Int) + s1 - 1, 1)] w12.drew
      clear hP
      have hw1 : IntKind.i64.wrap ((s0 : Int) + s1) = (s0 : Int) + s1 := IntWalk.i64_in _ (by omega)
      have hw2 : IntKind.i64.wrap ((s0 : Int) + s1 - 1) = (s0 : Int) + s1 - 1 := IntWalk.i64_in _ (by omega)
      go_region_law (refine step_append_spans (M := (castS N).set k2 ((s0 : Int), (s1 : Int) - 1)) (L := [((s0 : Int) + s1 - 1, 1)]) HF.out 0 rfl (by rfl) (.tmp 98) (.tmp 112) (by rfl) (by simp [Act.eval]) (some ⟨w12.drew.heap.size, 0, none⟩) 1 1 (by simp [Act.eval]) HSL.out rfl (fun h => by cases h) (by rw [HDL.out]; omega) ?_; intro v14 w14 hc)
      all_goals
        have hc1 : Crew (fun _ => False) w10 [spT v14 (castS (cutAt N k2))] w14 := by
          rw [← HDC.out]
          exact hc
        have HCL : Hid ((cutAt N k2).length = len0 + 1) := by
          show (cutAt N k2).length = len0 + 1
          unfold cutAt
          rw [List.length_append, List.length_set, HL.out]
          rfl
        have hk : k2 < N.length := by rw [HL.out]; exact hk2
        have h2 : 2 ≤ (N.getD k2 (0, 0)).2 := by
          rw [HSK.out]
          show 2 ≤ s1
          omega
        have HFC := Lib.hid (fits_cut HH.out hk h2)
        have HOC := Lib.hid (out_cut HH.out HO.out hk h2)
        have hC1 : w14.ownsRow 0 34 2 v14 (len0 + 1) (flatI (castS (cutAt N k2))) := by
          have := hc1.own 0 rfl
          rw [castS_length, HCL.out] at this
          exact this
        replace HW := Lib.hid (below_trans HW.out hc1.bel)
        replace HR := Lib.hid (SpansAt.below HR.out hc1.bel)
        obtain ⟨a14, c14, rfl⟩ := own_slice hC1
        have HTS := Lib.hid (spans_own hC1).2
        clear hc hc1 hC1 HF HSL h2 hk HDC HDL d0 d1
        generalize cutAt N k2 = M at *
        simp only [List.getElem_toArray, List.getElem_cons_succ, List.getElem_cons_zero, Act.put, List.setIfInBounds_toArray, List.set_cons_succ, List.set_cons_zero]
        go_wp2_with fail
        refine (norm_out M n R E a14 c14 (len0 + 1) w14 HTS.out HCL.out (by omega) HFC.out HOC.out).mono ?_
        rintro e w15 ⟨b2, c2, rfl, hs', hb⟩
        replace HW := Lib.hid (below_trans HW.out hb)
        replace HR := Lib.hid (SpansAt.below HR.out hb)
        have HR1 := Lib.hid hs'
        clear hb hs' HTS
        go_wp2_with fail
        have C := same_any (castS R) (castS R) b2 b0 c2 c0 R.length R.length w15 HR1.out HR.out (castS_length R) (castS_length R) (by omega)
        rw [decide_eq_true rfl] at C
        refine C.mono ?_
        clear C
        rintro e w16 ⟨rfl, hb⟩
        replace HW := Lib.hid (below_trans HW.out hb)
        clear hb HR1
        go_wp2
        go_ret
        exact ⟨rfl, HW.out⟩

theorem walk (a0 : Option Addr) (len0 cap0 : Nat) (z0 : List SpI) (a1 : Int) (_ : (Lit.int .i64 a1).wf = true) (a2 : Int) (_ : (Lit.int .i64 a2).wf = true) (a3 : Int) (_ : (Lit.int .i64 a3).wf = true) (w : World) (h0 : IsSpansC w a0 len0 cap0 z0) :
    Calls Try.prog 7 #[.slice a0 len0 cap0, .int .i64 a1, .int .i64 a2, .int .i64 a3] w fun e w' => e = .returned (.bool true) ∧ Below w.heap.size w w' := by
  by_cases hl : len0 ≤ 40
  · by_cases hz : len0 = 0
    · subst hz
      exact empty a0 cap0 a1 a2 a3 w
    · obtain ⟨x, rfl⟩ : ∃ x, a0 = some x := by
        obtain ⟨x, hx, _⟩ := h0.1.2.1 0 (by rw [h0.1.1]; omega)
        exact ⟨x, hx⟩
      obtain ⟨k1, e2, hk1⟩ : ∃ k : Nat, max 0 (min a2 (len0 : Int)) = (k : Int) ∧ k ≤ len0 := ⟨(max 0 (min a2 (len0 : Int))).toNat, by omega, by omega⟩
      obtain ⟨k2, e4, hk2⟩ : ∃ k : Nat, max 0 (min a3 ((len0 : Int) - 1)) = (k : Int) ∧ k < len0 := ⟨(max 0 (min a3 ((len0 : Int) - 1))).toNat, by omega, by omega⟩
      rcases bad_or_fits z0 a1 with hb | ⟨N, n, rfl, hf⟩
      · exact bad x len0 cap0 z0 a1 a2 a3 _ _ k1 k2 w h0 hl (by omega) hb rfl e2 hk1 rfl e4 hk2
      · obtain ⟨R, E, ho⟩ := out_any N n
        obtain rfl := hf.eq
        exact fit x len0 cap0 N n R E a2 a3 _ _ k1 k2 w h0 hl (by omega) hf ho rfl e2 hk1 rfl e4 hk2
  · exact long a0 len0 cap0 a1 a2 a3 w hl

set_option maxRecDepth 100000 in
theorem lifted (os : Os) (started : os.Started) (H : Type) (enc : TypeId × Value → H) :
    ReturnsInHanded {} Try.checked os 7 .any (Rows.spanOrderSpec.pre6 enc Try.prog Try.f7 Rows.spanOrderRow.domain false) (Rows.spanOrderSpec.post enc Try.prog Try.f7 false true false false) := by
  refine returnsInHanded_of_change (C := Try.checked) own started (by kernel_rfl) Try.func7
    (ChangeSpec.witness6 (enc := enc) (C := Try.checked) false ⟨#[], #[.slice none 0 0, .int .i64 0, .int .i64 0, .int .i64 0], []⟩ 8 (by kernel_rfl) (by kernel_rfl) (by kernel_rfl) (by kernel_rfl)) ?_
  intro W base args ds gs before hval0 hW _ _
  have hval : ∀ (j : Nat) t v, Try.f7.params[j]? = some t → args[j]? = some v → Value.okWide Try.prog W .any base t v := hval0
  have hW' := hW
  obtain ⟨p, q, hA0, hV, rfl, hfz, hnd⟩ := hW
  have hA : DataW.TrodAll enc Try.prog W 0 (fun _ => true) true Try.f7.params.toList args.toList ds p := hA0
  rw [Try.params7] at hA hval
  obtain ⟨v0, vs0, d0, ds0, p0, q0, hargs, rfl, rfl, h0, r0⟩ := trodAll_cons hA
  obtain ⟨v1, vs1, d1, ds1, p1, q1, rfl, rfl, rfl, h1, r1⟩ := trodAll_cons r0
  obtain ⟨v2, vs2, d2, ds2, p2, q2, rfl, rfl, rfl, h2, r2⟩ := trodAll_cons r1
  obtain ⟨v3, vs3, d3, ds3, p3, q3, rfl, rfl, rfl, h3, r3⟩ := trodAll_cons r2
  obtain ⟨rfl, rfl, rfl⟩ := trodAll_nil r3
  obtain rfl : args = #[v0, v1, v2, v3] := by cases args; simp_all
  obtain ⟨rfl, rfl⟩ := trodVars_none hV
  obtain ⟨a0, len0, cap0, rfl⟩ := okWide_slice Try.underlying22 (hval 0 22 v0 rfl rfl)
  have k0 := h0
  have lt0 : ∀ x ∈ p0, x.block < W.heap.size := by obtain ⟨m, hm⟩ := k0; exact DataW.trod_lt m _ _ _ hm
  obtain ⟨z0, w0⟩ : ∃ zs, IsSpansC W a0 len0 cap0 zs := by
    obtain ⟨fuel, hf⟩ := h0
    exact open_spansC hf
  obtain ⟨a1, rfl, rfl, rfl, w1⟩ := open_int Try.underlying3 (hval 1 3 v1 rfl rfl) h1
  obtain ⟨a2, rfl, rfl, rfl, w2⟩ := open_int Try.underlying3 (hval 2 3 v2 rfl rfl) h2
  obtain ⟨a3, rfl, rfl, rfl, w3⟩ := open_int Try.underlying3 (hval 3 3 v3 rfl rfl) h3
  clear hA0 hval0
  refine (walk a0 len0 cap0 z0 a1 w1 a2 w2 a3 w3 W w0).mono fun e W' ⟨he, bel⟩ => ?_
  subst he
  exact ⟨_, rfl, _, _, _, [], _, [], hW', trodAll_mk1 (shut_bool Try.underlying4 _), (trodAll_cons_mk (Below.trod laidOut (by kernel_rfl) (of_decide_eq_true (by kernel_rfl)) k0 bel lt0) (trodAll_cons_mk (shut_int Try.underlying3 w1) (trodAll_cons_mk (shut_int Try.underlying3 w2) (trodAll_cons_mk (shut_int Try.underlying3 w3) trodAll_mk0)))), rfl, bel.frame _, fun h => by cases h⟩

theorem holds : Rows.SpanOrderSaid :=
  OpenClaim.holds_of_wide 7 Try.f7 rfl rfl rfl rfl rfl rfl rfl ⟨rfl, rfl, rfl, rfl, rfl⟩ rfl rfl rfl rfl rfl (by kernel_rfl) Try.func7 (by kernel_rfl)
    (of_decide_eq_true (by kernel_rfl)) (by unfold Func.isWrapper; first | (rw [if_pos (by decide +kernel)]; kernel_rfl) | (rw [if_neg (by decide +kernel)]; exact ⟨rfl, rfl⟩))
    (fun os started H enc _ => lifted os started H enc)

end Go.Proofs.Ytcknpmlekpgafaa.spanOrder
