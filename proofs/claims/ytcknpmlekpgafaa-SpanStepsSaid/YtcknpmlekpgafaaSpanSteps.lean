/-
  SpanSteps: for every input the law answers true: what is taken in two goes is what is taken in one. Conditions: none.
-/
import Derived.Test.YtcknpmlekpgafaaSpApp
namespace Go.Proofs.Ytcknpmlekpgafaa.spanSteps
open Go.ChangeShapes Go.WideShapes Go.ChangeAt Go.RowKit Go.Rc5
open Go.ChangeMaps (open_string shut_string)

set_option maxRecDepth 100000 in
theorem long (a0 : Option Addr) (len0 cap0 : Nat) (a1 a2 a3 : Int) (w : World) (_ : (40 : Int) < len0) :
    Calls Try.prog 8 #[.slice a0 len0 cap0, .int .i64 a1, .int .i64 a2, .int .i64 a3] w fun e w' => e = .returned (.bool true) ∧ Below w.heap.size w w' := by
  have HSH := Lib.hid (shown_any w)
  go_enter Try.func8, Try.ntmps8
  go_wp2_with (first | (go_at_call 9; (with_reducible refine HSH.out.mono ?_); rintro e w1 ⟨rfl, hb1⟩))
  go_ret
  exact ⟨rfl, hb1⟩

set_option maxRecDepth 100000 in
theorem lowA (a0 : Option Addr) (len0 cap0 : Nat) (a1 a2 a3 : Int) (w : World) (_ : ¬ (40 : Int) < len0) (_ : a2 < 0) :
    Calls Try.prog 8 #[.slice a0 len0 cap0, .int .i64 a1, .int .i64 a2, .int .i64 a3] w fun e w' => e = .returned (.bool true) ∧ Below w.heap.size w w' := by
  have HSH := Lib.hid (shown_any w)
  go_enter Try.func8, Try.ntmps8
  go_wp2_with (first | (go_at_call 9; (with_reducible refine HSH.out.mono ?_); rintro e w1 ⟨rfl, hb1⟩))
  go_ret
  exact ⟨rfl, hb1⟩

set_option maxRecDepth 100000 in
theorem lowB (a0 : Option Addr) (len0 cap0 : Nat) (a1 a2 a3 : Int) (w : World) (_ : ¬ (40 : Int) < len0) (_ : ¬ a2 < 0) (_ : a3 < 0) :
    Calls Try.prog 8 #[.slice a0 len0 cap0, .int .i64 a1, .int .i64 a2, .int .i64 a3] w fun e w' => e = .returned (.bool true) ∧ Below w.heap.size w w' := by
  have HSH := Lib.hid (shown_any w)
  go_enter Try.func8, Try.ntmps8
  go_wp2_with (first | (go_at_call 9; (with_reducible refine HSH.out.mono ?_); rintro e w1 ⟨rfl, hb1⟩))
  go_ret
  exact ⟨rfl, hb1⟩

set_option maxRecDepth 100000 in
theorem highA (a0 : Option Addr) (len0 cap0 : Nat) (a1 a2 a3 : Int) (w : World) (_ : ¬ (40 : Int) < len0) (_ : ¬ a2 < 0) (_ : ¬ a3 < 0) (_ : 10000 < a2) :
    Calls Try.prog 8 #[.slice a0 len0 cap0, .int .i64 a1, .int .i64 a2, .int .i64 a3] w fun e w' => e = .returned (.bool true) ∧ Below w.heap.size w w' := by
  have HSH := Lib.hid (shown_any w)
  go_enter Try.func8, Try.ntmps8
  go_wp2_with (first | (go_at_call 9; (with_reducible refine HSH.out.mono ?_); rintro e w1 ⟨rfl, hb1⟩))
  go_ret
  exact ⟨rfl, hb1⟩

set_option maxRecDepth 100000 in
theorem highB (a0 : Option Addr) (len0 cap0 : Nat) (a1 a2 a3 : Int) (w : World) (_ : ¬ (40 : Int) < len0) (_ : ¬ a2 < 0) (_ : ¬ a3 < 0) (_ : ¬ 10000 < a2) (_ : 10000 < a3) :
    Calls Try.prog 8 #[.slice a0 len0 cap0, .int .i64 a1, .int .i64 a2, .int .i64 a3] w fun e w' => e = .returned (.bool true) ∧ Below w.heap.size w w' := by
  have HSH := Lib.hid (shown_any w)
  go_enter Try.func8, Try.ntmps8
  go_wp2_with (first | (go_at_call 9; (with_reducible refine HSH.out.mono ?_); rintro e w1 ⟨rfl, hb1⟩))
  go_ret
  exact ⟨rfl, hb1⟩

set_option maxRecDepth 100000 in
set_option maxHeartbeats 4000000 in
theorem bad (a0 : Option Addr) (len0 cap0 : Nat) (z0 : List SpI) (a1 : Int) (a2 : Int) (a3 : Int) (w : World) (h0 : IsSpans w a0 len0 z0) (hl : len0 ≤ 40) (g1 : ¬ a2 < 0) (g2 : ¬ a3 < 0) (g3 : ¬ 10000 < a2) (g4 : ¬ 10000 < a3) (hb : Bad z0 a1) :
    Calls Try.prog 8 #[.slice a0 len0 cap0, .int .i64 a1, .int .i64 a2, .int .i64 a3] w fun e w' => e = .returned (.bool true) ∧ Below w.heap.size w w' := by
  obtain ⟨hlen, hsp, hi0⟩ := h0
  have HIN : Hid (∀ s ∈ z0, In64 s.1) := fun s hs => (hi0 s hs).1
  clear hi0
  have hI : ¬ (40 : Int) < len0 := by omega
  have HSH := Lib.hid (shown_any w)
  have HS := Lib.hid (fun W (hb : Below w.heap.size w W) => SpansAt.below hsp hb)
  have HL := Lib.hid hlen
  have HH := Lib.hid hb
  clear hsp hlen hb
  go_enter Try.func8, Try.ntmps8
  go_wp2_with fail
  refine HSH.out.mono ?_
  rintro e w1 ⟨rfl, hb1⟩
  have HW := Lib.hid hb1
  clear hb1 HSH
  go_wp2_with fail
  have C := pnorm_bad z0 a0 cap0 len0 a1 w1 (HS.out _ HW.out) HL.out (by omega) HH.out HIN.out
  refine C.mono ?_
  clear C
  rintro e w2 ⟨rfl, hb⟩
  replace HW := Lib.hid (below_trans HW.out hb)
  clear hb
  go_wp2
  go_ret
  exact ⟨rfl, HW.out⟩

set_option maxRecDepth 100000 in
set_option maxHeartbeats 4000000 in
theorem lapped (a0 : Option Addr) (len0 cap0 : Nat) (z0 : List SpI) (a1 : Int) (a2 : Int) (a3 : Int) (w : World) (h0 : IsSpans w a0 len0 z0) (hl : len0 ≤ 40) (g1 : ¬ a2 < 0) (g2 : ¬ a3 < 0) (g3 : ¬ 10000 < a2) (g4 : ¬ 10000 < a3) (N : List Sp) (n : Nat) (hn : a1 = n) (hf : Fits z0 N n) (hp : ¬ N.Pairwise Apart) :
    Calls Try.prog 8 #[.slice a0 len0 cap0, .int .i64 a1, .int .i64 a2, .int .i64 a3] w fun e w' => e = .returned (.bool true) ∧ Below w.heap.size w w' := by
  obtain ⟨hlen, hsp, _⟩ := h0
  have hI : ¬ (40 : Int) < len0 := by omega
  have HSH := Lib.hid (shown_any w)
  have HS := Lib.hid (fun W (hb : Below w.heap.size w W) => SpansAt.below hsp hb)
  have HL := Lib.hid hlen
  subst hn
  have HH := Lib.hid hf
  have HPW := Lib.hid hp
  clear hsp hlen hf hp
  go_enter Try.func8, Try.ntmps8
  go_wp2_with fail
  refine HSH.out.mono ?_
  rintro e w1 ⟨rfl, hb1⟩
  have HW := Lib.hid hb1
  clear hb1 HSH
  go_wp2_with fail
  refine (pnorm_good z0 N n a0 cap0 len0 w1 (HS.out _ HW.out) HL.out (by omega) HH.out).mono ?_
  rintro e w2 hr
  obtain ⟨rfl, hb⟩ := hr.no HPW.out
  clear hr
  replace HW := Lib.hid (below_trans HW.out hb)
  clear hb
  go_wp2
  go_ret
  exact ⟨rfl, HW.out⟩

set_option maxRecDepth 100000 in
set_option maxHeartbeats 4000000 in
theorem over (a0 : Option Addr) (len0 cap0 : Nat) (z0 : List SpI) (a1 : Int) (a2 : Int) (a3 : Int) (w : World) (h0 : IsSpans w a0 len0 z0) (hl : len0 ≤ 40) (g1 : ¬ a2 < 0) (g2 : ¬ a3 < 0) (g3 : ¬ 10000 < a2) (g4 : ¬ 10000 < a3) (N : List Sp) (n : Nat) (hn : a1 = n) (hf : Fits z0 N n) (hp : N.Pairwise Apart) (hm : ((total (rows (memB N) n) : Nat) : Int) < a2) :
    Calls Try.prog 8 #[.slice a0 len0 cap0, .int .i64 a1, .int .i64 a2, .int .i64 a3] w fun e w' => e = .returned (.bool true) ∧ Below w.heap.size w w' := by
  obtain ⟨hlen, hsp, _⟩ := h0
  have hI : ¬ (40 : Int) < len0 := by omega
  have HSH := Lib.hid (shown_any w)
  have HS := Lib.hid (fun W (hb : Below w.heap.size w W) => SpansAt.below hsp hb)
  have HL := Lib.hid hlen
  subst hn
  obtain ⟨A, rfl⟩ : ∃ A : Nat, a2 = A := ⟨a2.toNat, by omega⟩
  obtain ⟨B, rfl⟩ : ∃ B : Nat, a3 = B := ⟨a3.toNat, by omega⟩
  have HH := Lib.hid hf
  have HPW := Lib.hid hp
  have HCK := Lib.hid (rows_ok (memB N) n).ch
  have HFK := Lib.hid (rows_fit (memB N) n)
  have HKL := Lib.hid (rows_len (memB N) n)
  have hn8 := hf.hi
  have hn1 := hf.lo
  have HM := Lib.hid hm
  clear hsp hlen hf hp hm
  go_enter Try.func8, Try.ntmps8
  go_wp2_with fail
  refine HSH.out.mono ?_
  rintro e w1 ⟨rfl, hb1⟩
  have HW := Lib.hid hb1
  clear hb1 HSH
  go_wp2_with fail
  refine (pnorm_good z0 N n a0 cap0 len0 w1 (HS.out _ HW.out) HL.out (by omega) HH.out).mono ?_
  rintro e w2 hr
  obtain ⟨v, rfl, hfr⟩ := hr.ok HPW.out
  obtain ⟨b0, k0, rfl, hs, hb⟩ := row_of hfr
  clear hr hfr
  replace HW := Lib.hid (below_trans HW.out hb)
  have HK := Lib.hid hs
  clear hs hb
  generalize rows (memB N) n = K at *
  rw [castS_length]
  go_wp2_with fail
  have C := ptake_no K b0 k0 K.length A w2 HK.out rfl (by have := HKL.out; omega) HCK.out (fun s hs => by have := HFK.out s hs; omega) (.inr HM.out)
  refine C.mono ?_
  clear C
  rintro e w3 ⟨rfl, hb⟩
  replace HW := Lib.hid (below_trans HW.out hb)
  replace HK := Lib.hid (SpansAt.below HK.out hb)
  clear hb
  rcases Nat.eq_zero_or_pos B with hB0 | hB0
  · subst hB0
    go_wp2_with fail
    refine (ptake_yes [] none 0 0 0 w3 (spans_none _) rfl (by omega) trivial (fun s hs => by cases hs) (by omega)).mono ?_
    rintro e w4 ⟨v1, v2, rfl, hc⟩
    obtain ⟨bU, kU, rfl⟩ := hc.slice 0 rfl
    obtain ⟨bV, kV, rfl⟩ := hc.slice 1 rfl
    replace HW := Lib.hid (below_trans HW.out hc.bel)
    replace HK := Lib.hid (SpansAt.below HK.out hc.bel)
    have HU := Lib.hid (crew_spans hc 0 rfl)
    have HV := Lib.hid (crew_spans hc 1 rfl)
    clear hc
    clear HU HV
    go_wp2_with fail
    have C := ptake_no K b0 k0 K.length A w4 HK.out rfl (by have := HKL.out; omega) HCK.out (fun s hs => by have := HFK.out s hs; omega) (.inr HM.out)
    refine C.mono ?_
    clear C
    rintro e w5 ⟨rfl, hb⟩
    replace HW := Lib.hid (below_trans HW.out hb)
    replace HK := Lib.hid (SpansAt.below HK.out hb)
    clear hb
    go_wp2
    go_ret
    exact ⟨rfl, HW.out⟩
  · have hB1 : (0 : Int) < B := by omega
    go_wp2_with fail
    have C := ptake_no [] none 0 0 B w3 (spans_none _) rfl (by omega) trivial (fun s hs => by cases hs) (.inr hB1)
    refine C.mono ?_
    clear C
    rintro e w4 ⟨rfl, hb⟩
    replace HW := Lib.hid (below_trans HW.out hb)
    replace HK := Lib.hid (SpansAt.below HK.out hb)
    clear hb
    go_wp2_with fail
    have C := ptake_no K b0 k0 K.length ((A : Int) + B) w4 HK.out rfl (by have := HKL.out; omega) HCK.out (fun s hs => by have := HFK.out s hs; omega) (.inr (by have := HM.out; omega))
    refine C.mono ?_
    clear C
    rintro e w5 ⟨rfl, hb⟩
    replace HW := Lib.hid (below_trans HW.out hb)
    replace HK := Lib.hid (SpansAt.below HK.out hb)
    clear hb
    go_wp2
    go_ret
    exact ⟨rfl, HW.out⟩

set_option maxRecDepth 100000 in
set_option maxHeartbeats 4000000 in
theorem within (a0 : Option Addr) (len0 cap0 : Nat) (z0 : List SpI) (a1 : Int) (a2 : Int) (a3 : Int) (w : World) (h0 : IsSpans w a0 len0 z0) (hl : len0 ≤ 40) (g1 : ¬ a2 < 0) (g2 : ¬ a3 < 0) (g3 : ¬ 10000 < a2) (g4 : ¬ 10000 < a3) (N : List Sp) (n : Nat) (hn : a1 = n) (hf : Fits z0 N n) (hp : N.Pairwise Apart) (hm : a2 ≤ ((total (rows (memB N) n) : Nat) : Int)) :
    Calls Try.prog 8 #[.slice a0 len0 cap0, .int .i64 a1, .int .i64 a2, .int .i64 a3] w fun e w' => e = .returned (.bool true) ∧ Below w.heap.size w w' := by
  obtain ⟨hlen, hsp, _⟩ := h0
  have hI : ¬ (40 : Int) < len0 := by omega
  have HSH := Lib.hid (shown_any w)
  have HS := Lib.hid (fun W (hb : Below w.heap.size w W) => SpansAt.below hsp hb)
  have HL := Lib.hid hlen
  subst hn
  obtain ⟨A, rfl⟩ : ∃ A : Nat, a2 = A := ⟨a2.toNat, by omega⟩
  obtain ⟨B, rfl⟩ : ∃ B : Nat, a3 = B := ⟨a3.toNat, by omega⟩
  have HH := Lib.hid hf
  have HPW := Lib.hid hp
  have HCK := Lib.hid (rows_ok (memB N) n).ch
  have HFK := Lib.hid (rows_fit (memB N) n)
  have HKL := Lib.hid (rows_len (memB N) n)
  have hn8 := hf.hi
  have hn1 := hf.lo
  have HM := Lib.hid hm
  clear hsp hlen hf hp hm
  go_enter Try.func8, Try.ntmps8
  go_wp2_with fail
  refine HSH.out.mono ?_
  rintro e w1 ⟨rfl, hb1⟩
  have HW := Lib.hid hb1
  clear hb1 HSH
  go_wp2_with fail
  refine (pnorm_good z0 N n a0 cap0 len0 w1 (HS.out _ HW.out) HL.out (by omega) HH.out).mono ?_
  rintro e w2 hr
  obtain ⟨v, rfl, hfr⟩ := hr.ok HPW.out
  obtain ⟨b0, k0, rfl, hs, hb⟩ := row_of hfr
  clear hr hfr
  replace HW := Lib.hid (below_trans HW.out hb)
  have HK := Lib.hid hs
  clear hs hb
  generalize rows (memB N) n = K at *
  rw [castS_length]
  have HSA := Lib.hid (takeL_spec HCK.out A)
  have HTA := Lib.hid (takeL_total K A (by have := HM.out; omega))
  have HLN := Lib.hid (takeL_len K A)
  have HO := Lib.hid (rows_one (m := 8192) HCK.out (fun s hs => by have := HFK.out s hs; omega) A)
  have HT := Lib.hid (rows_two (m := 8192) HCK.out (fun s hs => by have := HFK.out s hs; omega) A)
  have HAD := Lib.hid (takeL_add K A B)
  have HFX : Hid (∀ x, memB K x = true → x < n) := fun x hx => by
    rw [memB_iff] at hx
    obtain ⟨s, hs, h1, h2⟩ := hx
    have := HFK.out s hs
    omega
  go_wp2_with fail
  refine (ptake_yes K b0 k0 K.length A w2 HK.out rfl (by have := HKL.out; omega) HCK.out (fun s hs => by have := HFK.out s hs; omega) (by have := HM.out; omega)).mono ?_
  rintro e w3 ⟨v1, v2, rfl, hc⟩
  rw [HO.out, HT.out] at hc
  obtain ⟨b1, k1, rfl⟩ := hc.slice 0 rfl
  obtain ⟨b2, k2, rfl⟩ := hc.slice 1 rfl
  replace HW := Lib.hid (below_trans HW.out hc.bel)
  replace HK := Lib.hid (SpansAt.below HK.out hc.bel)
  have HX := Lib.hid (crew_spans hc 0 rfl)
  have HR := Lib.hid (crew_spans hc 1 rfl)
  have NX := Lib.hid (own_none (hc.own 0 rfl))
  clear hc HO HT
  generalize hXX : (takeL K A).1 = X at *
  generalize hRR : (takeL K A).2 = R at *
  clear hXX hRR
  rw [castS_length, castS_length]
  have hXR := HSA.out.2.2
  have HFR : Hid (∀ s ∈ R, s.1 + s.2 ≤ n) := ch_fit HSA.out.2.1 (fun x hx => HFX.out x (by rw [(hXR x).2] at hx; exact (Bool.and_eq_true_iff.1 hx).1))
  have HFX1 : Hid (∀ s ∈ X, s.1 + s.2 ≤ n) := ch_fit HSA.out.1 (fun x hx => HFX.out x (by rw [(hXR x).1] at hx; exact (Bool.and_eq_true_iff.1 hx).1))
  clear hXR
  by_cases hB : (B : Int) ≤ ((total R : Nat) : Int)
  · have HB := Lib.hid hB
    clear hB
    have HSB := Lib.hid (takeL_spec HSA.out.2.1 B)
    have HLY := Lib.hid (takeL_len R B)
    have HO := Lib.hid (rows_one (m := 8192) HSA.out.2.1 (fun s hs => by have := HFR.out s hs; omega) B)
    have HT := Lib.hid (rows_two (m := 8192) HSA.out.2.1 (fun s hs => by have := HFR.out s hs; omega) B)
    go_wp2_with fail
    refine (ptake_yes R b2 k2 R.length B w3 HR.out rfl (by have := HKL.out; have := HLN.out; omega) HSA.out.2.1 (fun s hs => by have := HFR.out s hs; omega) (by have := HB.out; omega)).mono ?_
    rintro e w4 ⟨v1, v2, rfl, hc⟩
    rw [HO.out, HT.out] at hc
    obtain ⟨b3, k3, rfl⟩ := hc.slice 0 rfl
    obtain ⟨b4, k4, rfl⟩ := hc.slice 1 rfl
    replace HW := Lib.hid (below_trans HW.out hc.bel)
    replace HK := Lib.hid (SpansAt.below HK.out hc.bel)
    replace HX := Lib.hid (SpansAt.below HX.out hc.bel)
    replace HR := Lib.hid (SpansAt.below HR.out hc.bel)
    have HY := Lib.hid (crew_spans hc 0 rfl)
    have HQ := Lib.hid (crew_spans hc 1 rfl)
    have NY := Lib.hid (own_none (hc.own 0 rfl))
    clear hc HO HT
    have HSZ := Lib.hid (takeL_spec HCK.out (A + B))
    have HO := Lib.hid (rows_one (m := 8192) HCK.out (fun s hs => by have := HFK.out s hs; omega) (A + B))
    have HT := Lib.hid (rows_two (m := 8192) HCK.out (fun s hs => by have := HFK.out s hs; omega) (A + B))
    go_wp2_with fail
    refine (ptake_yes K b0 k0 K.length (A + B) w4 HK.out rfl (by have := HKL.out; omega) HCK.out (fun s hs => by have := HFK.out s hs; omega) (by have := HM.out; have := HB.out; have := HTA.out; omega)).mono ?_
    rintro e w5 ⟨v1, v2, rfl, hc⟩
    rw [HO.out, HT.out] at hc
    obtain ⟨b6, k6, rfl⟩ := hc.slice 0 rfl
    obtain ⟨b7, k7, rfl⟩ := hc.slice 1 rfl
    replace HW := Lib.hid (below_trans HW.out hc.bel)
    replace HK := Lib.hid (SpansAt.below HK.out hc.bel)
    replace HX := Lib.hid (SpansAt.below HX.out hc.bel)
    replace HR := Lib.hid (SpansAt.below HR.out hc.bel)
    replace HY := Lib.hid (SpansAt.below HY.out hc.bel)
    replace HQ := Lib.hid (SpansAt.below HQ.out hc.bel)
    have HZ := Lib.hid (crew_spans hc 0 rfl)
    have HN := Lib.hid (crew_spans hc 1 rfl)
    clear hc HO HT
    have HL2 := Lib.hid HAD.out.1
    have HM2 := Lib.hid HAD.out.2
    have HLZ := Lib.hid (takeL_len K (A + B))
    clear HAD
    generalize hY1 : (takeL R B).1 = Y at *
    generalize hY2 : (takeL R B).2 = Q at *
    generalize hZ1 : (takeL K (A + B)).1 = Z at *
    generalize hZ2 : (takeL K (A + B)).2 = E at *
    clear hY1 hY2 hZ1 hZ2
    have e := HL2.out
    subst e
    simp only [castS_length]
    have HPP : Hid ((X ++ Y).Pairwise Apart) := apart_append HSA.out.1.apart HSB.out.1.apart (fun x hx => by
      have h1 := (HSA.out.2.2 x).1
      have h2 := (HSA.out.2.2 x).2
      have h3 := (HSB.out.2.2 x).1
      rw [hx] at h1
      have h4 := (Bool.and_eq_true_iff.1 h1.symm)
      rw [h4.2, Bool.not_true, Bool.and_false] at h2
      rw [h3, h2, Bool.false_and])
    have HFZ : Hid (∀ x, memB Z x = true → x < n) := fun x hx => HFX.out x (by rw [(HSZ.out.2.2 x).1] at hx; exact (Bool.and_eq_true_iff.1 hx).1)
    have HFY : Hid (∀ s ∈ Y, s.1 + s.2 ≤ n) := ch_fit HSB.out.1 (fun x hx => HFX.out x (by
      rw [(HSB.out.2.2 x).1] at hx
      have h1 := (Bool.and_eq_true_iff.1 hx).1
      rw [(HSA.out.2.2 x).2] at h1
      exact (Bool.and_eq_true_iff.1 h1).1))
    have HFT : Hid (Fits (castS (X ++ Y)) (X ++ Y) n) := ⟨hn1, hn8, rfl, fun s hs => by
      rcases List.mem_append.1 hs with h | h
      · exact HSA.out.1.some s h
      · exact HSB.out.1.some s h, fun s hs => by
      rcases List.mem_append.1 hs with h | h
      · exact HFX1.out s h
      · exact HFY.out s h⟩
    have HRZ : Hid (rows (memB (X ++ Y)) n = Z) := (rows_congr fun x _ => HM2.out x).trans (rows_mem HSZ.out.1 HFZ.out)
    clear HM2 HL2 HSA HSB
    have HE := Lib.hid ((Crew.start w5).empty 34 2)
    go_wp2_with (at_builtin; refine wpList_append_spans (M := []) (L := castS X) HE.out 0 rfl rfl (.tmp 84) (.tmp 85) rfl rfl b1 X.length k1 rfl (SpansAt.below HX.out ((Below.refl _ _).alloc (Nat.le_refl _) _)) (castS_length _) NX.out (by have := HKL.out; have := HLN.out; simp; omega) ?nx)
    case nx =>
      intro v3 wa hc
      have hc1 : Crew (fun _ => False) w5 [spT v3 (castS X)] wa := by simpa using hc
      have HC1 := Lib.hid hc1
      clear hc hc1
      go_wp2_with (at_builtin; refine wpList_append_spans (M := castS X) (L := castS Y) HC1.out 0 rfl rfl (.tmp 86) (.tmp 87) rfl rfl b3 Y.length k3 rfl (SpansAt.below HY.out HC1.out.bel) (castS_length _) NY.out (by have := HKL.out; have := HLN.out; rw [castS_length]; have := HLY.out; omega) ?ny)
      case ny =>
        intro v4 wb hc
        have hc1 : Crew (fun _ => False) w5 [spT v4 (castS (X ++ Y))] wb := by rw [castS_append]; simpa using hc
        obtain ⟨b5, k5, rfl⟩ := hc1.slice 0 rfl
        have HC2 := Lib.hid hc1
        clear hc hc1
        replace HW := Lib.hid (below_trans HW.out HC2.out.bel)
        replace HZ := Lib.hid (SpansAt.below HZ.out HC2.out.bel)
        replace HQ := Lib.hid (SpansAt.below HQ.out HC2.out.bel)
        replace HN := Lib.hid (SpansAt.below HN.out HC2.out.bel)
        go_wp2_with fail
        refine (pnorm_good (castS (X ++ Y)) (X ++ Y) n b5 k5 _ wb (crew_spans HC2.out 0 rfl) rfl (by rw [castS_length, List.length_append]; have := HKL.out; have := HLN.out; have := HLY.out; omega) HFT.out).mono ?_
        rintro e wc hr
        obtain ⟨v, rfl, hfr⟩ := hr.ok HPP.out
        rw [HRZ.out] at hfr
        obtain ⟨b8, k8, rfl, hs, hb⟩ := row_of hfr
        clear hr hfr
        replace HW := Lib.hid (below_trans HW.out hb)
        replace HZ := Lib.hid (SpansAt.below HZ.out hb)
        replace HQ := Lib.hid (SpansAt.below HQ.out hb)
        replace HN := Lib.hid (SpansAt.below HN.out hb)
        have HO := Lib.hid hs
        clear hs hb
        rw [castS_length]
        go_wp2_with fail
        have C := same_any (castS Z) (castS Z) b8 b6 k8 k6 Z.length Z.length wc HO.out HZ.out (castS_length _) (castS_length _) (by have := HKL.out; have := HLZ.out; omega)
        rw [decide_eq_true rfl] at C
        refine C.mono ?_
        clear C
        rintro e wd ⟨rfl, hb⟩
        replace HW := Lib.hid (below_trans HW.out hb)
        replace HQ := Lib.hid (SpansAt.below HQ.out hb)
        replace HN := Lib.hid (SpansAt.below HN.out hb)
        clear hb
        go_wp2_with fail
        have C := same_any (castS Q) (castS Q) b4 b7 k4 k7 Q.length Q.length wd HQ.out HN.out (castS_length _) (castS_length _) (by have := HKL.out; have := HLZ.out; omega)
        rw [decide_eq_true rfl] at C
        refine C.mono ?_
        clear C
        rintro e we ⟨rfl, hb⟩
        replace HW := Lib.hid (below_trans HW.out hb)
        clear hb
        go_wp2
        go_ret
        exact ⟨rfl, HW.out⟩
  · have HB := Lib.hid hB
    clear hB
    go_wp2_with fail
    have C := ptake_no R b2 k2 R.length B w3 HR.out rfl (by have := HKL.out; have := HLN.out; omega) HSA.out.2.1 (fun s hs => by have := HFR.out s hs; omega) (.inr (by have := HB.out; omega))
    refine C.mono ?_
    clear C
    rintro e w4 ⟨rfl, hb⟩
    replace HW := Lib.hid (below_trans HW.out hb)
    replace HK := Lib.hid (SpansAt.below HK.out hb)
    replace HX := Lib.hid (SpansAt.below HX.out hb)
    replace HR := Lib.hid (SpansAt.below HR.out hb)
    clear hb
    go_wp2_with fail
    have C := ptake_no K b0 k0 K.length ((A : Int) + B) w4 HK.out rfl (by have := HKL.out; omega) HCK.out (fun s hs => by have := HFK.out s hs; omega) (.inr (by have := HM.out; have := HB.out; have := HTA.out; omega))
    refine C.mono ?_
    clear C
    rintro e w5 ⟨rfl, hb⟩
    replace HW := Lib.hid (below_trans HW.out hb)
    replace HK := Lib.hid (SpansAt.below HK.out hb)
    replace HX := Lib.hid (SpansAt.below HX.out hb)
    replace HR := Lib.hid (SpansAt.below HR.out hb)
    clear hb
    have HFT : Hid (Fits (castS X) X n) := ⟨hn1, hn8, rfl, HSA.out.1.some, HFX1.out⟩
    have HPP : Hid (X.Pairwise Apart) := HSA.out.1.apart
    have HE := Lib.hid ((Crew.start w5).empty 34 2)
    go_wp2_with (at_builtin; refine wpList_append_spans (M := []) (L := castS X) HE.out 0 rfl rfl (.tmp 84) (.tmp 85) rfl rfl b1 X.length k1 rfl (SpansAt.below HX.out ((Below.refl _ _).alloc (Nat.le_refl _) _)) (castS_length _) NX.out (by have := HKL.out; have := HLN.out; simp; omega) ?nx)
    case nx =>
      intro v3 wa hc
      have hc1 : Crew (fun _ => False) w5 [spT v3 (castS X)] wa := by simpa using hc
      have HC1 := Lib.hid hc1
      clear hc hc1
      go_wp2_with (at_builtin; refine wpList_append_spans (M := castS X) (L := []) HC1.out 0 rfl rfl (.tmp 86) (.tmp 87) rfl rfl none 0 0 rfl (spans_none _) rfl (fun _ => rfl) (by have := HKL.out; have := HLN.out; rw [castS_length]; omega) ?ny)
      case ny =>
        intro v4 wb hc
        have hc1 : Crew (fun _ => False) w5 [spT v4 (castS X)] wb := by simpa using hc
        obtain ⟨b5, k5, rfl⟩ := hc1.slice 0 rfl
        have HC2 := Lib.hid hc1
        clear hc hc1
        replace HW := Lib.hid (below_trans HW.out HC2.out.bel)
        go_wp2_with fail
        refine (pnorm_good (castS X) X n b5 k5 _ wb (crew_spans HC2.out 0 rfl) rfl (by rw [castS_length]; have := HKL.out; have := HLN.out; omega) HFT.out).mono ?_
        rintro e wc hr
        obtain ⟨v, rfl, hfr⟩ := hr.ok HPP.out
        obtain ⟨b8, k8, rfl, hs, hb⟩ := row_of hfr
        clear hr hfr hs
        replace HW := Lib.hid (below_trans HW.out hb)
        clear hb
        go_wp2
        go_ret
        exact ⟨rfl, HW.out⟩

theorem walk (a0 : Option Addr) (len0 cap0 : Nat) (z0 : List SpI) (a1 : Int) (_ : (Lit.int .i64 a1).wf = true) (a2 : Int) (_ : (Lit.int .i64 a2).wf = true) (a3 : Int) (_ : (Lit.int .i64 a3).wf = true) (w : World) (h0 : IsSpans w a0 len0 z0) :
    Calls Try.prog 8 #[.slice a0 len0 cap0, .int .i64 a1, .int .i64 a2, .int .i64 a3] w fun e w' => e = .returned (.bool true) ∧ Below w.heap.size w w' := by
  by_cases hl : len0 ≤ 40
  · have hI : ¬ (40 : Int) < len0 := by omega
    by_cases g1 : a2 < 0
    · exact lowA a0 len0 cap0 a1 a2 a3 w hI g1
    by_cases g2 : a3 < 0
    · exact lowB a0 len0 cap0 a1 a2 a3 w hI g1 g2
    by_cases g3 : 10000 < a2
    · exact highA a0 len0 cap0 a1 a2 a3 w hI g1 g2 g3
    by_cases g4 : 10000 < a3
    · exact highB a0 len0 cap0 a1 a2 a3 w hI g1 g2 g3 g4
    rcases bad_or_fits z0 a1 with hb | ⟨N, n, hn, hf⟩
    · exact bad a0 len0 cap0 z0 a1 a2 a3 w h0 hl g1 g2 g3 g4 hb
    · by_cases hp : N.Pairwise Apart
      · by_cases hm : ((total (rows (memB N) n) : Nat) : Int) < a2
        · exact over a0 len0 cap0 z0 a1 a2 a3 w h0 hl g1 g2 g3 g4 N n hn hf hp hm
        · exact within a0 len0 cap0 z0 a1 a2 a3 w h0 hl g1 g2 g3 g4 N n hn hf hp (by omega)
      · exact lapped a0 len0 cap0 z0 a1 a2 a3 w h0 hl g1 g2 g3 g4 N n hn hf hp
  · exact long a0 len0 cap0 a1 a2 a3 w (by omega)

set_option maxRecDepth 100000 in
theorem lifted (os : Os) (started : os.Started) (H : Type) (enc : TypeId × Value → H) :
    ReturnsInHanded {} Try.checked os 8 .any (Rows.spanStepsSpec.pre6 enc Try.prog Try.f8 Rows.spanStepsRow.domain false) (Rows.spanStepsSpec.post enc Try.prog Try.f8 false true false false) := by
  refine returnsInHanded_of_change (C := Try.checked) own started (by kernel_rfl) Try.func8
    (ChangeSpec.witness6 (enc := enc) (C := Try.checked) false ⟨#[], #[.slice none 0 0, .int .i64 0, .int .i64 0, .int .i64 0], []⟩ 8 (by kernel_rfl) (by kernel_rfl) (by kernel_rfl) (by kernel_rfl)) ?_
  intro W base args ds gs before hval0 hW _ _
  have hval : ∀ (j : Nat) t v, Try.f8.params[j]? = some t → args[j]? = some v → Value.okWide Try.prog W .any base t v := hval0
  have hW' := hW
  obtain ⟨p, q, hA0, hV, rfl, hfz, hnd⟩ := hW
  have hA : DataW.TrodAll enc Try.prog W 0 (fun _ => true) true Try.f8.params.toList args.toList ds p := hA0
  rw [Try.params8] at hA hval
  obtain ⟨v0, vs0, d0, ds0, p0, q0, hargs, rfl, rfl, h0, r0⟩ := trodAll_cons hA
  obtain ⟨v1, vs1, d1, ds1, p1, q1, rfl, rfl, rfl, h1, r1⟩ := trodAll_cons r0
  obtain ⟨v2, vs2, d2, ds2, p2, q2, rfl, rfl, rfl, h2, r2⟩ := trodAll_cons r1
  obtain ⟨v3, vs3, d3, ds3, p3, q3, rfl, rfl, rfl, h3, r3⟩ := trodAll_cons r2
  obtain ⟨rfl, rfl, rfl⟩ := trodAll_nil r3
  obtain rfl : args = #[v0, v1, v2, v3] := by cases args; simp_all
  obtain ⟨rfl, rfl⟩ := trodVars_none hV
  obtain ⟨a0, len0, cap0, rfl⟩ := okWide_slice Try.underlying22 (hval 0 22 v0 rfl rfl)
  have k0 := h0
  have lt0 : ∀ x ∈ p0, x.block < W.heap.size := by obtain ⟨m, hm⟩ := k0; exact DataW.trod_lt m _ _ _ hm
  obtain ⟨z0, w0⟩ : ∃ zs, IsSpans W a0 len0 zs := by
    obtain ⟨fuel, hf⟩ := h0
    exact open_spans hf
  obtain ⟨a1, rfl, rfl, rfl, w1⟩ := open_int Try.underlying3 (hval 1 3 v1 rfl rfl) h1
  obtain ⟨a2, rfl, rfl, rfl, w2⟩ := open_int Try.underlying3 (hval 2 3 v2 rfl rfl) h2
  obtain ⟨a3, rfl, rfl, rfl, w3⟩ := open_int Try.underlying3 (hval 3 3 v3 rfl rfl) h3
  clear hA0 hval0
  refine (walk a0 len0 cap0 z0 a1 w1 a2 w2 a3 w3 W w0).mono fun e W' ⟨he, bel⟩ => ?_
  subst he
  exact ⟨_, rfl, _, _, _, [], _, [], hW', trodAll_mk1 (shut_bool Try.underlying4 _), (trodAll_cons_mk (Below.trod laidOut (by kernel_rfl) (of_decide_eq_true (by kernel_rfl)) k0 bel lt0) (trodAll_cons_mk (shut_int Try.underlying3 w1) (trodAll_cons_mk (shut_int Try.underlying3 w2) (trodAll_cons_mk (shut_int Try.underlying3 w3) trodAll_mk0)))), rfl, bel.frame _, fun h => by cases h⟩

theorem holds : Rows.SpanStepsSaid :=
  OpenClaim.holds_of_wide 8 Try.f8 rfl rfl rfl rfl rfl rfl rfl ⟨rfl, rfl, rfl, rfl, rfl⟩ rfl rfl rfl rfl rfl (by kernel_rfl) Try.func8 (by kernel_rfl)
    (of_decide_eq_true (by kernel_rfl)) (by unfold Func.isWrapper; first | (rw [if_pos (by decide +kernel)]; kernel_rfl) | (rw [if_neg (by decide +kernel)]; exact ⟨rfl, rfl⟩))
    (fun os started H enc _ => lifted os started H enc)

end Go.Proofs.Ytcknpmlekpgafaa.spanSteps
