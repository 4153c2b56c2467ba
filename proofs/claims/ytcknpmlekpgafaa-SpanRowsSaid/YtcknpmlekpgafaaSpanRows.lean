/-
  SpanRows: for every input the law answers true: whether a row is right, what it has, it made right, and all other sectors, or what is wrong, are as the document says. Conditions: none.
-/
import Derived.Test.YtcknpmlekpgafaaSpApp
namespace Go.Proofs.Ytcknpmlekpgafaa.spanRows
open Go.ChangeShapes Go.WideShapes Go.ChangeAt Go.RowKit Go.Rc5
open Go.ChangeMaps (open_string shut_string)

theorem long (a0 : Option Addr) (len0 cap0 : Nat) (a1 a2 : Int) (w : World) (h : ¬ len0 ≤ 40) :
    Calls Try.prog 3 #[.slice a0 len0 cap0, .int .i64 a1, .int .i64 a2] w fun e w' => e = .returned (.bool true) ∧ Below w.heap.size w w' := by
  have hI : (40 : Int) < len0 := by omega
  have HSH := Lib.hid (shown_any w)
  go_enter Try.func3, Try.ntmps3
  go_wp2_with (first | (go_at_call 9; (with_reducible refine HSH.out.mono ?_); rintro e w1 ⟨rfl, hb1⟩))
  go_ret
  exact ⟨rfl, hb1⟩

set_option maxRecDepth 100000 in
set_option maxHeartbeats 4000000 in
theorem bad (a0 : Option Addr) (len0 cap0 : Nat) (z0 : List SpI) (a1 a2 : Int) (w2 : (Lit.int .i64 a2).wf = true) (w : World) (h0 : IsSpans w a0 len0 z0) (hl : len0 ≤ 40) (hb : Bad z0 a1) :
    Calls Try.prog 3 #[.slice a0 len0 cap0, .int .i64 a1, .int .i64 a2] w fun e w' => e = .returned (.bool true) ∧ Below w.heap.size w w' := by
  obtain ⟨hlen, hsp, hi0⟩ := h0
  have HIN : Hid (∀ s ∈ z0, In64 s.1) := fun s hs => (hi0 s hs).1
  clear hi0
  have hI : ¬ (40 : Int) < len0 := by omega
  have HSH := Lib.hid (shown_any w)
  have HS := Lib.hid (fun W (hb : Below w.heap.size w W) => SpansAt.below hsp hb)
  have HL := Lib.hid hlen
  have HH := Lib.hid hb
  have H2 := Lib.hid (in64_of w2).2
  clear hsp hlen w2 hb
  go_enter Try.func3, Try.ntmps3
  go_wp2_with fail
  refine HSH.out.mono ?_
  rintro e w1 ⟨rfl, hb1⟩
  have HW := Lib.hid hb1
  clear hb1 HSH
  go_wp2_with fail
  refine (pnorm_bad z0 a0 cap0 len0 a1 w1 (HS.out _ HW.out) HL.out (by omega) HH.out HIN.out).mono ?_
  rintro e w2 ⟨rfl, hb⟩
  replace HW := Lib.hid (below_trans HW.out hb)
  clear hb
  go_wp2_with fail
  refine (rnorm_bad z0 a0 cap0 len0 a1 w2 (HS.out _ HW.out) HL.out (by omega) HH.out).mono ?_
  rintro e w3 ⟨rfl, hb⟩
  replace HW := Lib.hid (below_trans HW.out hb)
  clear hb
  go_wp2_with fail
  refine (prest_bad z0 a0 cap0 len0 a1 w3 (HS.out _ HW.out) HL.out (by omega) HH.out HIN.out).mono ?_
  rintro e w4 ⟨rfl, hb⟩
  replace HW := Lib.hid (below_trans HW.out hb)
  clear hb
  go_wp2_with fail
  refine (rrest_bad z0 a0 cap0 len0 a1 w4 (HS.out _ HW.out) HL.out (by omega) HH.out).mono ?_
  rintro e w5 ⟨rfl, hb⟩
  replace HW := Lib.hid (below_trans HW.out hb)
  clear hb
  go_wp2_with fail
  have C := same_any [] [] none none 0 0 0 0 w5 (spans_none _) (spans_none _) rfl rfl (by omega)
  rw [decide_eq_true rfl] at C
  refine C.mono ?_
  clear C
  rintro e w6 ⟨rfl, hb⟩
  replace HW := Lib.hid (below_trans HW.out hb)
  clear hb
  go_wp2_with fail
  have C := same_any [] [] none none 0 0 0 0 w6 (spans_none _) (spans_none _) rfl rfl (by omega)
  rw [decide_eq_true rfl] at C
  refine C.mono ?_
  clear C
  rintro e w7 ⟨rfl, hb⟩
  replace HW := Lib.hid (below_trans HW.out hb)
  clear hb
  go_wp2_with fail
  refine (pright_bad z0 a0 cap0 len0 a1 w7 (HS.out _ HW.out) HL.out (by omega) HH.out HIN.out).mono ?_
  rintro e w8 ⟨rfl, hb⟩
  replace HW := Lib.hid (below_trans HW.out hb)
  clear hb
  go_wp2_with fail
  refine (rright_bad z0 a0 cap0 len0 a1 w8 (HS.out _ HW.out) HL.out (by omega) HH.out).mono ?_
  rintro e w9 ⟨rfl, hb⟩
  replace HW := Lib.hid (below_trans HW.out hb)
  clear hb
  go_wp2
  go_ret
  exact ⟨rfl, HW.out⟩

set_option maxRecDepth 100000 in
set_option maxHeartbeats 4000000 in
theorem lapped (a0 : Option Addr) (len0 cap0 : Nat) (z0 : List SpI) (a1 a2 : Int) (w2 : (Lit.int .i64 a2).wf = true) (w : World) (h0 : IsSpans w a0 len0 z0) (hl : len0 ≤ 40) (N : List Sp) (n : Nat) (hn : a1 = n) (hf : Fits z0 N n) (hp : ¬ N.Pairwise Apart) :
    Calls Try.prog 3 #[.slice a0 len0 cap0, .int .i64 a1, .int .i64 a2] w fun e w' => e = .returned (.bool true) ∧ Below w.heap.size w w' := by
  obtain ⟨hlen, hsp, _⟩ := h0
  subst hn
  have hI : ¬ (40 : Int) < len0 := by omega
  have HSH := Lib.hid (shown_any w)
  have HS := Lib.hid (fun W (hb : Below w.heap.size w W) => SpansAt.below hsp hb)
  have HL := Lib.hid hlen
  have HH := Lib.hid hf
  have HPW := Lib.hid hp
  have H2 := Lib.hid (in64_of w2).2
  clear hsp hlen w2 hf hp
  go_enter Try.func3, Try.ntmps3
  go_wp2_with fail
  refine HSH.out.mono ?_
  rintro e w1 ⟨rfl, hb1⟩
  have HW := Lib.hid hb1
  clear hb1 HSH
  go_wp2_with fail
  refine (pnorm_good z0 N n a0 cap0 len0 w1 (HS.out _ HW.out) HL.out (by omega) HH.out).mono ?_
  rintro e w2 hr
  obtain ⟨rfl, hb⟩ := hr.no HPW.out
  clear hr
  replace HW := Lib.hid (below_trans HW.out hb)
  clear hb
  go_wp2_with fail
  refine (rnorm_good z0 N n a0 cap0 len0 w2 (HS.out _ HW.out) HL.out (by omega) HH.out).mono ?_
  rintro e w3 hr
  obtain ⟨rfl, hb⟩ := hr.no HPW.out
  clear hr
  replace HW := Lib.hid (below_trans HW.out hb)
  clear hb
  go_wp2_with fail
  refine (prest_good z0 N n a0 cap0 len0 w3 (HS.out _ HW.out) HL.out (by omega) HH.out).mono ?_
  rintro e w4 hr
  obtain ⟨rfl, hb⟩ := hr.no HPW.out
  clear hr
  replace HW := Lib.hid (below_trans HW.out hb)
  clear hb
  go_wp2_with fail
  refine (rrest_good z0 N n a0 cap0 len0 w4 (HS.out _ HW.out) HL.out (by omega) HH.out).mono ?_
  rintro e w5 hr
  obtain ⟨rfl, hb⟩ := hr.no HPW.out
  clear hr
  replace HW := Lib.hid (below_trans HW.out hb)
  clear hb
  go_wp2_with fail
  have C := same_any [] [] none none 0 0 0 0 w5 (spans_none _) (spans_none _) rfl rfl (by omega)
  rw [decide_eq_true rfl] at C
  refine C.mono ?_
  clear C
  rintro e w6 ⟨rfl, hb⟩
  replace HW := Lib.hid (below_trans HW.out hb)
  clear hb
  go_wp2_with fail
  have C := same_any [] [] none none 0 0 0 0 w6 (spans_none _) (spans_none _) rfl rfl (by omega)
  rw [decide_eq_true rfl] at C
  refine C.mono ?_
  clear C
  rintro e w7 ⟨rfl, hb⟩
  replace HW := Lib.hid (below_trans HW.out hb)
  clear hb
  go_wp2_with fail
  refine (pright_good z0 N n a0 cap0 len0 w7 (HS.out _ HW.out) HL.out (by omega) HH.out).mono ?_
  rintro e w8 hr
  obtain ⟨rfl, hb⟩ := hr.no (fun hc => HPW.out hc.apart)
  clear hr
  replace HW := Lib.hid (below_trans HW.out hb)
  clear hb
  go_wp2_with fail
  refine (rright_good z0 N n a0 cap0 len0 w8 (HS.out _ HW.out) HL.out (by omega) HH.out).mono ?_
  rintro e w9 hr
  obtain ⟨rfl, hb⟩ := hr.no (fun hc => HPW.out hc.apart)
  clear hr
  replace HW := Lib.hid (below_trans HW.out hb)
  clear hb
  go_wp2
  go_ret
  exact ⟨rfl, HW.out⟩

set_option maxRecDepth 100000 in
set_option maxHeartbeats 4000000 in
theorem fine (a0 : Option Addr) (len0 cap0 : Nat) (z0 : List SpI) (a1 a2 : Int) (w2 : (Lit.int .i64 a2).wf = true) (w : World) (h0 : IsSpans w a0 len0 z0) (hl : len0 ≤ 40) (N : List Sp) (n : Nat) (hn : a1 = n) (hf : Fits z0 N n) (hp : N.Pairwise Apart) :
    Calls Try.prog 3 #[.slice a0 len0 cap0, .int .i64 a1, .int .i64 a2] w fun e w' => e = .returned (.bool true) ∧ Below w.heap.size w w' := by
  obtain ⟨hlen, hsp, _⟩ := h0
  subst hn
  have hI : ¬ (40 : Int) < len0 := by omega
  have HSH := Lib.hid (shown_any w)
  have HS := Lib.hid (fun W (hb : Below w.heap.size w W) => SpansAt.below hsp hb)
  have HL := Lib.hid hlen
  have HH := Lib.hid hf
  have HPW := Lib.hid hp
  have H2 := Lib.hid (in64_of w2).2
  have HEQ := Lib.hid hf.eq
  clear hsp hlen w2 hf hp
  go_enter Try.func3, Try.ntmps3
  go_wp2_with fail
  refine HSH.out.mono ?_
  rintro e w1 ⟨rfl, hb1⟩
  have HW := Lib.hid hb1
  clear hb1 HSH
  go_wp2_with fail
  refine (pnorm_good z0 N n a0 cap0 len0 w1 (HS.out _ HW.out) HL.out (by omega) HH.out).mono ?_
  rintro e w2 hr
  obtain ⟨v, rfl, hfr⟩ := hr.ok HPW.out
  obtain ⟨b0, k0, rfl, hs, hb⟩ := row_of hfr
  clear hr hfr
  replace HW := Lib.hid (below_trans HW.out hb)
  have HR0 := Lib.hid hs
  clear hs
  clear hb
  go_wp2_with fail
  refine (rnorm_good z0 N n a0 cap0 len0 w2 (HS.out _ HW.out) HL.out (by omega) HH.out).mono ?_
  rintro e w3 hr
  obtain ⟨v, rfl, hfr⟩ := hr.ok HPW.out
  obtain ⟨b1, k1, rfl, hs, hb⟩ := row_of hfr
  clear hr hfr
  replace HW := Lib.hid (below_trans HW.out hb)
  replace HR0 := Lib.hid (SpansAt.below HR0.out hb)
  have HR1 := Lib.hid hs
  clear hs
  clear hb
  go_wp2_with fail
  refine (prest_good z0 N n a0 cap0 len0 w3 (HS.out _ HW.out) HL.out (by omega) HH.out).mono ?_
  rintro e w4 hr
  obtain ⟨v, rfl, hfr⟩ := hr.ok HPW.out
  obtain ⟨b2, k2, rfl, hs, hb⟩ := row_of hfr
  clear hr hfr
  replace HW := Lib.hid (below_trans HW.out hb)
  replace HR0 := Lib.hid (SpansAt.below HR0.out hb)
  replace HR1 := Lib.hid (SpansAt.below HR1.out hb)
  have HR2 := Lib.hid hs
  clear hs
  clear hb
  go_wp2_with fail
  refine (rrest_good z0 N n a0 cap0 len0 w4 (HS.out _ HW.out) HL.out (by omega) HH.out).mono ?_
  rintro e w5 hr
  obtain ⟨v, rfl, hfr⟩ := hr.ok HPW.out
  obtain ⟨b3, k3, rfl, hs, hb⟩ := row_of hfr
  clear hr hfr
  replace HW := Lib.hid (below_trans HW.out hb)
  replace HR0 := Lib.hid (SpansAt.below HR0.out hb)
  replace HR1 := Lib.hid (SpansAt.below HR1.out hb)
  replace HR2 := Lib.hid (SpansAt.below HR2.out hb)
  have HR3 := Lib.hid hs
  clear hs
  clear hb
  go_wp2_with fail
  have C := same_any _ _ b0 b1 k0 k1 _ _ w5 HR0.out HR1.out rfl rfl (by rw [castS_length]; have := rows_len (memB N) n; have := HH.out.hi; omega)
  rw [decide_eq_true rfl] at C
  refine C.mono ?_
  clear C
  rintro e w6 ⟨rfl, hb⟩
  replace HW := Lib.hid (below_trans HW.out hb)
  replace HR0 := Lib.hid (SpansAt.below HR0.out hb)
  replace HR1 := Lib.hid (SpansAt.below HR1.out hb)
  replace HR2 := Lib.hid (SpansAt.below HR2.out hb)
  replace HR3 := Lib.hid (SpansAt.below HR3.out hb)
  clear hb
  go_wp2_with fail
  have C := same_any _ _ b2 b3 k2 k3 _ _ w6 HR2.out HR3.out rfl rfl (by rw [castS_length]; have := rows_len (fun x => !memB N x) n; have := HH.out.hi; omega)
  rw [decide_eq_true rfl] at C
  refine C.mono ?_
  clear C
  rintro e w7 ⟨rfl, hb⟩
  replace HW := Lib.hid (below_trans HW.out hb)
  replace HR0 := Lib.hid (SpansAt.below HR0.out hb)
  replace HR1 := Lib.hid (SpansAt.below HR1.out hb)
  replace HR2 := Lib.hid (SpansAt.below HR2.out hb)
  replace HR3 := Lib.hid (SpansAt.below HR3.out hb)
  clear hb
  by_cases hch : Ch 0 N
  · have HCH := Lib.hid hch
    clear hch
    go_wp2_with fail
    refine (pright_good z0 N n a0 cap0 len0 w7 (HS.out _ HW.out) HL.out (by omega) HH.out).mono ?_
    rintro e w8 hr
    obtain ⟨rfl, hb⟩ := hr.yes HCH.out
    clear hr
    replace HW := Lib.hid (below_trans HW.out hb)
    clear hb
    go_wp2_with fail
    refine (rright_good z0 N n a0 cap0 len0 w8 (HS.out _ HW.out) HL.out (by omega) HH.out).mono ?_
    rintro e w9 hr
    obtain ⟨rfl, hb⟩ := hr.yes HCH.out
    clear hr
    replace HW := Lib.hid (below_trans HW.out hb)
    clear hb
    go_wp2_with fail
    have hz := HS.out _ HW.out
    rw [HEQ.out] at hz
    refine (ptotal N a0 cap0 len0 w9 hz (by rw [← HL.out, HEQ.out, castS_length]) (by omega) (fits_total HH.out)).mono ?_
    clear hz
    rintro e w10 ⟨rfl, hb⟩
    replace HW := Lib.hid (below_trans HW.out hb)
    clear hb
    go_wp2_with fail
    have hz := HS.out _ HW.out
    rw [HEQ.out] at hz
    refine (rtotal_any N a0 cap0 len0 w10 hz (by rw [← HL.out, HEQ.out, castS_length]) (by omega) (fits_total HH.out)).mono ?_
    clear hz
    rintro e w11 ⟨rfl, rfl⟩
    go_wp2_with fail
    have hz := HS.out _ HW.out
    rw [HEQ.out] at hz
    refine (phas_any N a0 cap0 len0 a2 H2.out w10 hz (by rw [← HL.out, HEQ.out, castS_length]) (by omega) (fun s hs => by have := HH.out.fit s hs; have := HH.out.hi; omega)).mono ?_
    clear hz
    rintro e w11 ⟨rfl, hb⟩
    replace HW := Lib.hid (below_trans HW.out hb)
    clear hb
    go_wp2_with fail
    have hz := HS.out _ HW.out
    rw [HEQ.out] at hz
    refine (rhas_any N a0 cap0 len0 a2 H2.out w11 hz (by rw [← HL.out, HEQ.out, castS_length]) (by omega)).mono ?_
    clear hz
    rintro e w12 ⟨rfl, hb⟩
    replace HW := Lib.hid (below_trans HW.out hb)
    clear hb
    go_wp2
    go_ret
    exact ⟨rfl, HW.out⟩
  · have HCH := Lib.hid hch
    clear hch
    go_wp2_with fail
    refine (pright_good z0 N n a0 cap0 len0 w7 (HS.out _ HW.out) HL.out (by omega) HH.out).mono ?_
    rintro e w8 hr
    obtain ⟨rfl, hb⟩ := hr.no HCH.out
    clear hr
    replace HW := Lib.hid (below_trans HW.out hb)
    clear hb
    go_wp2_with fail
    refine (rright_good z0 N n a0 cap0 len0 w8 (HS.out _ HW.out) HL.out (by omega) HH.out).mono ?_
    rintro e w9 hr
    obtain ⟨rfl, hb⟩ := hr.no HCH.out
    clear hr
    replace HW := Lib.hid (below_trans HW.out hb)
    clear hb
    go_wp2_with fail
    have hz := HS.out _ HW.out
    rw [HEQ.out] at hz
    refine (ptotal N a0 cap0 len0 w9 hz (by rw [← HL.out, HEQ.out, castS_length]) (by omega) (fits_total HH.out)).mono ?_
    clear hz
    rintro e w10 ⟨rfl, hb⟩
    replace HW := Lib.hid (below_trans HW.out hb)
    clear hb
    go_wp2_with fail
    have hz := HS.out _ HW.out
    rw [HEQ.out] at hz
    refine (rtotal_any N a0 cap0 len0 w10 hz (by rw [← HL.out, HEQ.out, castS_length]) (by omega) (fits_total HH.out)).mono ?_
    clear hz
    rintro e w11 ⟨rfl, rfl⟩
    go_wp2_with fail
    have hz := HS.out _ HW.out
    rw [HEQ.out] at hz
    refine (phas_any N a0 cap0 len0 a2 H2.out w10 hz (by rw [← HL.out, HEQ.out, castS_length]) (by omega) (fun s hs => by have := HH.out.fit s hs; have := HH.out.hi; omega)).mono ?_
    clear hz
    rintro e w11 ⟨rfl, hb⟩
    replace HW := Lib.hid (below_trans HW.out hb)
    clear hb
    go_wp2_with fail
    have hz := HS.out _ HW.out
    rw [HEQ.out] at hz
    refine (rhas_any N a0 cap0 len0 a2 H2.out w11 hz (by rw [← HL.out, HEQ.out, castS_length]) (by omega)).mono ?_
    clear hz
    rintro e w12 ⟨rfl, hb⟩
    replace HW := Lib.hid (below_trans HW.out hb)
    clear hb
    go_wp2
    go_ret
    exact ⟨rfl, HW.out⟩

theorem walk (a0 : Option Addr) (len0 cap0 : Nat) (z0 : List SpI) (a1 : Int) (_ : (Lit.int .i64 a1).wf = true) (a2 : Int) (w2 : (Lit.int .i64 a2).wf = true) (w : World) (h0 : IsSpans w a0 len0 z0) :
    Calls Try.prog 3 #[.slice a0 len0 cap0, .int .i64 a1, .int .i64 a2] w fun e w' => e = .returned (.bool true) ∧ Below w.heap.size w w' := by
  by_cases hl : len0 ≤ 40
  · rcases bad_or_fits z0 a1 with hb | ⟨N, n, hn, hf⟩
    · exact bad a0 len0 cap0 z0 a1 a2 w2 w h0 hl hb
    · by_cases hp : N.Pairwise Apart
      · exact fine a0 len0 cap0 z0 a1 a2 w2 w h0 hl N n hn hf hp
      · exact lapped a0 len0 cap0 z0 a1 a2 w2 w h0 hl N n hn hf hp
  · exact long a0 len0 cap0 a1 a2 w hl

set_option maxRecDepth 100000 in
theorem lifted (os : Os) (started : os.Started) (H : Type) (enc : TypeId × Value → H) :
    ReturnsInHanded {} Try.checked os 3 .any (Rows.spanRowsSpec.pre6 enc Try.prog Try.f3 Rows.spanRowsRow.domain false) (Rows.spanRowsSpec.post enc Try.prog Try.f3 false true false false) := by
  refine returnsInHanded_of_change (C := Try.checked) own started (by kernel_rfl) Try.func3
    (ChangeSpec.witness6 (enc := enc) (C := Try.checked) false ⟨#[], #[.slice none 0 0, .int .i64 0, .int .i64 0], []⟩ 8 (by kernel_rfl) (by kernel_rfl) (by kernel_rfl) (by kernel_rfl)) ?_
  intro W base args ds gs before hval0 hW _ _
  have hval : ∀ (j : Nat) t v, Try.f3.params[j]? = some t → args[j]? = some v → Value.okWide Try.prog W .any base t v := hval0
  have hW' := hW
  obtain ⟨p, q, hA0, hV, rfl, hfz, hnd⟩ := hW
  have hA : DataW.TrodAll enc Try.prog W 0 (fun _ => true) true Try.f3.params.toList args.toList ds p := hA0
  rw [Try.params3] at hA hval
  obtain ⟨v0, vs0, d0, ds0, p0, q0, hargs, rfl, rfl, h0, r0⟩ := trodAll_cons hA
  obtain ⟨v1, vs1, d1, ds1, p1, q1, rfl, rfl, rfl, h1, r1⟩ := trodAll_cons r0
  obtain ⟨v2, vs2, d2, ds2, p2, q2, rfl, rfl, rfl, h2, r2⟩ := trodAll_cons r1
  obtain ⟨rfl, rfl, rfl⟩ := trodAll_nil r2
  obtain rfl : args = #[v0, v1, v2] := by cases args; simp_all
  obtain ⟨rfl, rfl⟩ := trodVars_none hV
  obtain ⟨a0, len0, cap0, rfl⟩ := okWide_slice Try.underlying22 (hval 0 22 v0 rfl rfl)
  have k0 := h0
  have lt0 : ∀ x ∈ p0, x.block < W.heap.size := by obtain ⟨m, hm⟩ := k0; exact DataW.trod_lt m _ _ _ hm
  obtain ⟨z0, w0⟩ : ∃ zs, IsSpans W a0 len0 zs := by
    obtain ⟨fuel, hf⟩ := h0
    exact open_spans hf
  obtain ⟨a1, rfl, rfl, rfl, w1⟩ := open_int Try.underlying3 (hval 1 3 v1 rfl rfl) h1
  obtain ⟨a2, rfl, rfl, rfl, w2⟩ := open_int Try.underlying3 (hval 2 3 v2 rfl rfl) h2
  clear hA0 hval0
  refine (walk a0 len0 cap0 z0 a1 w1 a2 w2 W w0).mono fun e W' ⟨he, bel⟩ => ?_
  subst he
  exact ⟨_, rfl, _, _, _, [], _, [], hW', trodAll_mk1 (shut_bool Try.underlying4 _), (trodAll_cons_mk (Below.trod laidOut (by kernel_rfl) (of_decide_eq_true (by kernel_rfl)) k0 bel lt0) (trodAll_cons_mk (shut_int Try.underlying3 w1) (trodAll_cons_mk (shut_int Try.underlying3 w2) trodAll_mk0))), rfl, bel.frame _, fun h => by cases h⟩

theorem holds : Rows.SpanRowsSaid :=
  OpenClaim.holds_of_wide 3 Try.f3 rfl rfl rfl rfl rfl rfl rfl ⟨rfl, rfl, rfl, rfl, rfl⟩ rfl rfl rfl rfl rfl (by kernel_rfl) Try.func3 (by kernel_rfl)
    (of_decide_eq_true (by kernel_rfl)) (by unfold Func.isWrapper; first | (rw [if_pos (by decide +kernel)]; kernel_rfl) | (rw [if_neg (by decide +kernel)]; exact ⟨rfl, rfl⟩))
    (fun os started H enc _ => lifted os started H enc)

end Go.Proofs.Ytcknpmlekpgafaa.spanRows
