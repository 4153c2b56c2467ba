/-
  SpanTakes: for every input the law answers true: what is taken of a right row, and what is left, are as the document says. Conditions: none.
-/
import Derived.Test.YtcknpmlekpgafaaSpApp
namespace Go.Proofs.Ytcknpmlekpgafaa.spanTakes
open Go.ChangeShapes Go.WideShapes Go.ChangeAt Go.RowKit Go.Rc5
open Go.ChangeMaps (open_string shut_string)

theorem long (a0 : Option Addr) (len0 cap0 : Nat) (a1 : Int) (a2 : Int) (w : World) (h : ¬ len0 ≤ 40) :
    Calls Try.prog 4 #[.slice a0 len0 cap0, .int .i64 a1, .int .i64 a2] w fun e w' => e = .returned (.bool true) ∧ Below w.heap.size w w' := by
  have hI : (40 : Int) < len0 := by omega
  have HSH := Lib.hid (shown_any w)
  go_enter Try.func4, Try.ntmps4
  go_wp2_with (first | (go_at_call 9; (with_reducible refine HSH.out.mono ?_); rintro e w1 ⟨rfl, hb1⟩))
  go_ret
  exact ⟨rfl, hb1⟩

set_option maxRecDepth 100000 in
set_option maxHeartbeats 4000000 in
theorem bad (a0 : Option Addr) (len0 cap0 : Nat) (z0 : List SpI) (a1 : Int) (a2 : Int) (w : World) (h0 : IsSpans w a0 len0 z0) (hl : len0 ≤ 40) (hb : Bad z0 a1) :
    Calls Try.prog 4 #[.slice a0 len0 cap0, .int .i64 a1, .int .i64 a2] w fun e w' => e = .returned (.bool true) ∧ Below w.heap.size w w' := by
  obtain ⟨hlen, hsp, hi0⟩ := h0
  have HIN : Hid (∀ s ∈ z0, In64 s.1) := fun s hs => (hi0 s hs).1
  clear hi0
  have hI : ¬ (40 : Int) < len0 := by omega
  have HSH := Lib.hid (shown_any w)
  have HS := Lib.hid (fun W (hb : Below w.heap.size w W) => SpansAt.below hsp hb)
  have HL := Lib.hid hlen
  have HH := Lib.hid hb
  clear hsp hlen hb
  go_enter Try.func4, Try.ntmps4
  go_wp2_with fail
  refine HSH.out.mono ?_
  rintro e w1 ⟨rfl, hb1⟩
  have HW := Lib.hid hb1
  clear hb1 HSH
  go_wp2_with fail
  have C := pnorm_bad z0 a0 cap0 len0 a1 w1 (HS.out _ HW.out) HL.out (by omega) HH.out HIN.out
  refine C.mono ?_
  clear C
  rintro e w2 ⟨rfl, hb⟩
  replace HW := Lib.hid (below_trans HW.out hb)
  clear hb
  go_wp2
  go_ret
  exact ⟨rfl, HW.out⟩

set_option maxRecDepth 100000 in
set_option maxHeartbeats 4000000 in
theorem lapped (a0 : Option Addr) (len0 cap0 : Nat) (z0 : List SpI) (a1 : Int) (a2 : Int) (w : World) (h0 : IsSpans w a0 len0 z0) (hl : len0 ≤ 40) (N : List Sp) (n : Nat) (hn : a1 = n) (hf : Fits z0 N n) (hp : ¬ N.Pairwise Apart) :
    Calls Try.prog 4 #[.slice a0 len0 cap0, .int .i64 a1, .int .i64 a2] w fun e w' => e = .returned (.bool true) ∧ Below w.heap.size w w' := by
  obtain ⟨hlen, hsp, _⟩ := h0
  have hI : ¬ (40 : Int) < len0 := by omega
  have HSH := Lib.hid (shown_any w)
  have HS := Lib.hid (fun W (hb : Below w.heap.size w W) => SpansAt.below hsp hb)
  have HL := Lib.hid hlen
  subst hn
  have HH := Lib.hid hf
  have HPW := Lib.hid hp
  clear hsp hlen hf hp
  go_enter Try.func4, Try.ntmps4
  go_wp2_with fail
  refine HSH.out.mono ?_
  rintro e w1 ⟨rfl, hb1⟩
  have HW := Lib.hid hb1
  clear hb1 HSH
  go_wp2_with fail
  refine (pnorm_good z0 N n a0 cap0 len0 w1 (HS.out _ HW.out) HL.out (by omega) HH.out).mono ?_
  rintro e w2 hr
  obtain ⟨rfl, hb⟩ := hr.no HPW.out
  clear hr
  replace HW := Lib.hid (below_trans HW.out hb)
  clear hb
  go_wp2
  go_ret
  exact ⟨rfl, HW.out⟩

set_option maxRecDepth 100000 in
set_option maxHeartbeats 4000000 in
theorem over (a0 : Option Addr) (len0 cap0 : Nat) (z0 : List SpI) (a1 : Int) (a2 : Int) (w : World) (h0 : IsSpans w a0 len0 z0) (hl : len0 ≤ 40) (N : List Sp) (n : Nat) (hn : a1 = n) (hf : Fits z0 N n) (hp : N.Pairwise Apart) (hm : a2 < 0 ∨ ((total (rows (memB N) n) : Nat) : Int) < a2) :
    Calls Try.prog 4 #[.slice a0 len0 cap0, .int .i64 a1, .int .i64 a2] w fun e w' => e = .returned (.bool true) ∧ Below w.heap.size w w' := by
  obtain ⟨hlen, hsp, _⟩ := h0
  have hI : ¬ (40 : Int) < len0 := by omega
  have HSH := Lib.hid (shown_any w)
  have HS := Lib.hid (fun W (hb : Below w.heap.size w W) => SpansAt.below hsp hb)
  have HL := Lib.hid hlen
  have HM := Lib.hid hm
  clear hm
  subst hn
  have HH := Lib.hid hf
  have HPW := Lib.hid hp
  have HCH := Lib.hid (rows_ok (memB N) n).ch
  have HFT := Lib.hid (rows_fit (memB N) n)
  have HKL := Lib.hid (rows_len (memB N) n)
  have hn8 := hf.hi
  clear hsp hlen hf hp
  go_enter Try.func4, Try.ntmps4
  go_wp2_with fail
  refine HSH.out.mono ?_
  rintro e w1 ⟨rfl, hb1⟩
  have HW := Lib.hid hb1
  clear hb1 HSH
  go_wp2_with fail
  refine (pnorm_good z0 N n a0 cap0 len0 w1 (HS.out _ HW.out) HL.out (by omega) HH.out).mono ?_
  rintro e w2 hr
  obtain ⟨v, rfl, hfr⟩ := hr.ok HPW.out
  obtain ⟨b0, k0, rfl, hs, hb⟩ := row_of hfr
  clear hr hfr
  replace HW := Lib.hid (below_trans HW.out hb)
  have HK := Lib.hid hs
  clear hs hb
  generalize rows (memB N) n = K at *
  rw [castS_length]
  go_wp2_with fail
  have C := ptake_no K b0 k0 K.length a2 w2 HK.out rfl (by have := HKL.out; omega) HCH.out (fun s hs => by have := HFT.out s hs; omega) HM.out
  refine C.mono ?_
  clear C
  rintro e w3 ⟨rfl, hb⟩
  replace HW := Lib.hid (below_trans HW.out hb)
  replace HK := Lib.hid (SpansAt.below HK.out hb)
  clear hb
  go_wp2_with fail
  refine (rtake_no K b0 k0 K.length a2 w3 HK.out rfl (by have := HKL.out; omega) (fun s hs => by have := HFT.out s hs; omega) HM.out).mono ?_
  rintro e w4 ⟨rfl, rfl⟩
  go_wp2_with fail
  have C := same_any [] [] none none 0 0 0 0 w3 (spans_none _) (spans_none _) rfl rfl (by omega)
  rw [decide_eq_true rfl] at C
  refine C.mono ?_
  clear C
  rintro e w4 ⟨rfl, hb⟩
  replace HW := Lib.hid (below_trans HW.out hb)
  replace HK := Lib.hid (SpansAt.below HK.out hb)
  clear hb
  go_wp2_with fail
  have C := same_any [] [] none none 0 0 0 0 w4 (spans_none _) (spans_none _) rfl rfl (by omega)
  rw [decide_eq_true rfl] at C
  refine C.mono ?_
  clear C
  rintro e w5 ⟨rfl, hb⟩
  replace HW := Lib.hid (below_trans HW.out hb)
  replace HK := Lib.hid (SpansAt.below HK.out hb)
  clear hb
  go_wp2
  go_ret
  exact ⟨rfl, HW.out⟩

set_option maxRecDepth 100000 in
set_option maxHeartbeats 4000000 in
theorem fine (a0 : Option Addr) (len0 cap0 : Nat) (z0 : List SpI) (a1 : Int) (a2 : Int) (w : World) (h0 : IsSpans w a0 len0 z0) (hl : len0 ≤ 40) (N : List Sp) (n : Nat) (hn : a1 = n) (hf : Fits z0 N n) (hp : N.Pairwise Apart) (m : Nat) (hma : a2 = m) (hm : m ≤ total (rows (memB N) n)) :
    Calls Try.prog 4 #[.slice a0 len0 cap0, .int .i64 a1, .int .i64 a2] w fun e w' => e = .returned (.bool true) ∧ Below w.heap.size w w' := by
  obtain ⟨hlen, hsp, _⟩ := h0
  have hI : ¬ (40 : Int) < len0 := by omega
  have HSH := Lib.hid (shown_any w)
  have HS := Lib.hid (fun W (hb : Below w.heap.size w W) => SpansAt.below hsp hb)
  have HL := Lib.hid hlen
  subst hma
  have HM := Lib.hid hm
  clear hm
  subst hn
  have HH := Lib.hid hf
  have HPW := Lib.hid hp
  have HCH := Lib.hid (rows_ok (memB N) n).ch
  have HFT := Lib.hid (rows_fit (memB N) n)
  have HKL := Lib.hid (rows_len (memB N) n)
  have hn8 := hf.hi
  clear hsp hlen hf hp
  go_enter Try.func4, Try.ntmps4
  go_wp2_with fail
  refine HSH.out.mono ?_
  rintro e w1 ⟨rfl, hb1⟩
  have HW := Lib.hid hb1
  clear hb1 HSH
  go_wp2_with fail
  refine (pnorm_good z0 N n a0 cap0 len0 w1 (HS.out _ HW.out) HL.out (by omega) HH.out).mono ?_
  rintro e w2 hr
  obtain ⟨v, rfl, hfr⟩ := hr.ok HPW.out
  obtain ⟨b0, k0, rfl, hs, hb⟩ := row_of hfr
  clear hr hfr
  replace HW := Lib.hid (below_trans HW.out hb)
  have HK := Lib.hid hs
  clear hs hb
  generalize rows (memB N) n = K at *
  rw [castS_length]
  go_wp2_with fail
  refine (ptake_yes K b0 k0 K.length m w2 HK.out rfl (by have := HKL.out; omega) HCH.out (fun s hs => by have := HFT.out s hs; omega) HM.out).mono ?_
  rintro e w3 ⟨v1, v2, rfl, hc⟩
  obtain ⟨b1, k1, rfl⟩ := hc.slice 0 rfl
  obtain ⟨b2, k2, rfl⟩ := hc.slice 1 rfl
  replace HW := Lib.hid (below_trans HW.out hc.bel)
  replace HK := Lib.hid (SpansAt.below HK.out hc.bel)
  have H1 := Lib.hid (crew_spans hc 0 rfl)
  have H2 := Lib.hid (crew_spans hc 1 rfl)
  clear hc
  go_wp2_with fail
  refine (rtake_yes K b0 k0 K.length m w3 HK.out rfl (by have := HKL.out; omega) HCH.out (fun s hs => by have := HFT.out s hs; omega) HM.out).mono ?_
  rintro e w4 ⟨v1, v2, rfl, hc⟩
  obtain ⟨b3, k3, rfl⟩ := hc.slice 0 rfl
  obtain ⟨b4, k4, rfl⟩ := hc.slice 1 rfl
  replace HW := Lib.hid (below_trans HW.out hc.bel)
  replace HK := Lib.hid (SpansAt.below HK.out hc.bel)
  replace H1 := Lib.hid (SpansAt.below H1.out hc.bel)
  replace H2 := Lib.hid (SpansAt.below H2.out hc.bel)
  have H3 := Lib.hid (crew_spans hc 0 rfl)
  have H4 := Lib.hid (crew_spans hc 1 rfl)
  clear hc
  go_wp2_with fail
  have C := same_any _ _ b1 b3 k1 k3 _ _ w4 H1.out H3.out rfl rfl (by rw [castS_length]; have := rows_len (oneB K m) 8192; omega)
  rw [decide_eq_true rfl] at C
  refine C.mono ?_
  clear C
  rintro e w5 ⟨rfl, hb⟩
  replace HW := Lib.hid (below_trans HW.out hb)
  replace HK := Lib.hid (SpansAt.below HK.out hb)
  replace H1 := Lib.hid (SpansAt.below H1.out hb)
  replace H2 := Lib.hid (SpansAt.below H2.out hb)
  replace H3 := Lib.hid (SpansAt.below H3.out hb)
  replace H4 := Lib.hid (SpansAt.below H4.out hb)
  clear hb
  go_wp2_with fail
  have C := same_any _ _ b2 b4 k2 k4 _ _ w5 H2.out H4.out rfl rfl (by rw [castS_length]; have := rows_len (twoB K m) 8192; omega)
  rw [decide_eq_true rfl] at C
  refine C.mono ?_
  clear C
  rintro e w6 ⟨rfl, hb⟩
  replace HW := Lib.hid (below_trans HW.out hb)
  replace HK := Lib.hid (SpansAt.below HK.out hb)
  replace H1 := Lib.hid (SpansAt.below H1.out hb)
  replace H2 := Lib.hid (SpansAt.below H2.out hb)
  replace H3 := Lib.hid (SpansAt.below H3.out hb)
  replace H4 := Lib.hid (SpansAt.below H4.out hb)
  clear hb
  go_wp2
  go_ret
  exact ⟨rfl, HW.out⟩

theorem walk (a0 : Option Addr) (len0 cap0 : Nat) (z0 : List SpI) (a1 : Int) (_ : (Lit.int .i64 a1).wf = true) (a2 : Int) (_ : (Lit.int .i64 a2).wf = true) (w : World) (h0 : IsSpans w a0 len0 z0) :
    Calls Try.prog 4 #[.slice a0 len0 cap0, .int .i64 a1, .int .i64 a2] w fun e w' => e = .returned (.bool true) ∧ Below w.heap.size w w' := by
  by_cases hl : len0 ≤ 40
  · rcases bad_or_fits z0 a1 with hb | ⟨N, n, hn, hf⟩
    · exact bad a0 len0 cap0 z0 a1 a2 w h0 hl hb
    · by_cases hp : N.Pairwise Apart
      · by_cases hm : a2 < 0 ∨ ((total (rows (memB N) n) : Nat) : Int) < a2
        · exact over a0 len0 cap0 z0 a1 a2 w h0 hl N n hn hf hp hm
        · exact fine a0 len0 cap0 z0 a1 a2 w h0 hl N n hn hf hp a2.toNat (by omega) (by omega)
      · exact lapped a0 len0 cap0 z0 a1 a2 w h0 hl N n hn hf hp
  · exact long a0 len0 cap0 a1 a2 w hl

set_option maxRecDepth 100000 in
theorem lifted (os : Os) (started : os.Started) (H : Type) (enc : TypeId × Value → H) :
    ReturnsInHanded {} Try.checked os 4 .any (Rows.spanTakesSpec.pre6 enc Try.prog Try.f4 Rows.spanTakesRow.domain false) (Rows.spanTakesSpec.post enc Try.prog Try.f4 false true false false) := by
  refine returnsInHanded_of_change (C := Try.checked) own started (by kernel_rfl) Try.func4
    (ChangeSpec.witness6 (enc := enc) (C := Try.checked) false ⟨#[], #[.slice none 0 0, .int .i64 0, .int .i64 0], []⟩ 8 (by kernel_rfl) (by kernel_rfl) (by kernel_rfl) (by kernel_rfl)) ?_
  intro W base args ds gs before hval0 hW _ _
  have hval : ∀ (j : Nat) t v, Try.f4.params[j]? = some t → args[j]? = some v → Value.okWide Try.prog W .any base t v := hval0
  have hW' := hW
  obtain ⟨p, q, hA0, hV, rfl, hfz, hnd⟩ := hW
  have hA : DataW.TrodAll enc Try.prog W 0 (fun _ => true) true Try.f4.params.toList args.toList ds p := hA0
  rw [Try.params4] at hA hval
  obtain ⟨v0, vs0, d0, ds0, p0, q0, hargs, rfl, rfl, h0, r0⟩ := trodAll_cons hA
  obtain ⟨v1, vs1, d1, ds1, p1, q1, rfl, rfl, rfl, h1, r1⟩ := trodAll_cons r0
  obtain ⟨v2, vs2, d2, ds2, p2, q2, rfl, rfl, rfl, h2, r2⟩ := trodAll_cons r1
  obtain ⟨rfl, rfl, rfl⟩ := trodAll_nil r2
  obtain rfl : args = #[v0, v1, v2] := by cases args; simp_all
  obtain ⟨rfl, rfl⟩ := trodVars_none hV
  obtain ⟨a0, len0, cap0, rfl⟩ := okWide_slice Try.underlying22 (hval 0 22 v0 rfl rfl)
  have k0 := h0
  have lt0 : ∀ x ∈ p0, x.block < W.heap.size := by obtain ⟨m, hm⟩ := k0; exact DataW.trod_lt m _ _ _ hm
  obtain ⟨z0, w0⟩ : ∃ zs, IsSpans W a0 len0 zs := by
    obtain ⟨fuel, hf⟩ := h0
    exact open_spans hf
  obtain ⟨a1, rfl, rfl, rfl, w1⟩ := open_int Try.underlying3 (hval 1 3 v1 rfl rfl) h1
  obtain ⟨a2, rfl, rfl, rfl, w2⟩ := open_int Try.underlying3 (hval 2 3 v2 rfl rfl) h2
  clear hA0 hval0
  refine (walk a0 len0 cap0 z0 a1 w1 a2 w2 W w0).mono fun e W' ⟨he, bel⟩ => ?_
  subst he
  exact ⟨_, rfl, _, _, _, [], _, [], hW', trodAll_mk1 (shut_bool Try.underlying4 _), (trodAll_cons_mk (Below.trod laidOut (by kernel_rfl) (of_decide_eq_true (by kernel_rfl)) k0 bel lt0) (trodAll_cons_mk (shut_int Try.underlying3 w1) (trodAll_cons_mk (shut_int Try.underlying3 w2) trodAll_mk0))), rfl, bel.frame _, fun h => by cases h⟩

theorem holds : Rows.SpanTakesSaid :=
  OpenClaim.holds_of_wide 4 Try.f4 rfl rfl rfl rfl rfl rfl rfl ⟨rfl, rfl, rfl, rfl, rfl⟩ rfl rfl rfl rfl rfl (by kernel_rfl) Try.func4 (by kernel_rfl)
    (of_decide_eq_true (by kernel_rfl)) (by unfold Func.isWrapper; first | (rw [if_pos (by decide +kernel)]; kernel_rfl) | (rw [if_neg (by decide +kernel)]; exact ⟨rfl, rfl⟩))
    (fun os started H enc _ => lifted os started H enc)

end Go.Proofs.Ytcknpmlekpgafaa.spanTakes
