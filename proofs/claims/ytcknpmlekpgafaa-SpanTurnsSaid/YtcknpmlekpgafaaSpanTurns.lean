/-
  SpanTurns: for every input the law answers true: turned round twice, a row is made right; both have all sectors, and none in common. Conditions: none.
-/
import Derived.Test.YtcknpmlekpgafaaSpApp
namespace Go.Rc5

theorem fits_rows {f : Nat → Bool} {n : Nat} (h1 : 1 ≤ n) (h2 : n ≤ 8192) : Fits (castS (rows f n)) (rows f n) n := ⟨h1, h2, rfl, (rows_ok f n).ch.some, rows_fit f n⟩

theorem rest_rest (f : Nat → Bool) (n : Nat) : rows (fun x => !memB (rows (fun x => !f x) n) x) n = rows f n := rows_congr fun x hx => by
  rw [(rows_ok _ n).mem, decide_eq_true hx]
  simp

theorem total_rows (f : Nat → Bool) (n : Nat) : total (rows f n) = cnt f n := by
  rw [total_cnt (rows_ok f n).ch.apart (rows_fit f n)]
  exact cnt_congr fun x hx => by rw [(rows_ok f n).mem, decide_eq_true hx]; rfl

end Go.Rc5
namespace Go.Proofs.Ytcknpmlekpgafaa.spanTurns
open Go.ChangeShapes Go.WideShapes Go.ChangeAt Go.RowKit Go.Rc5
open Go.ChangeMaps (open_string shut_string)

theorem long (a0 : Option Addr) (len0 cap0 : Nat) (a1 : Int) (w : World) (h : ¬ len0 ≤ 40) :
    Calls Try.prog 5 #[.slice a0 len0 cap0, .int .i64 a1] w fun e w' => e = .returned (.bool true) ∧ Below w.heap.size w w' := by
  have hI : (40 : Int) < len0 := by omega
  have HSH := Lib.hid (shown_any w)
  go_enter Try.func5, Try.ntmps5
  go_wp2_with (first | (go_at_call 9; (with_reducible refine HSH.out.mono ?_); rintro e w1 ⟨rfl, hb1⟩))
  go_ret
  exact ⟨rfl, hb1⟩

set_option maxRecDepth 100000 in
set_option maxHeartbeats 4000000 in
theorem bad (a0 : Option Addr) (len0 cap0 : Nat) (z0 : List SpI) (a1 : Int) (w : World) (h0 : IsSpans w a0 len0 z0) (hl : len0 ≤ 40) (hb : Bad z0 a1) :
    Calls Try.prog 5 #[.slice a0 len0 cap0, .int .i64 a1] w fun e w' => e = .returned (.bool true) ∧ Below w.heap.size w w' := by
  obtain ⟨hlen, hsp, hi0⟩ := h0
  have HIN : Hid (∀ s ∈ z0, In64 s.1) := fun s hs => (hi0 s hs).1
  clear hi0
  have hI : ¬ (40 : Int) < len0 := by omega
  have HSH := Lib.hid (shown_any w)
  have HS := Lib.hid (fun W (hb : Below w.heap.size w W) => SpansAt.below hsp hb)
  have HL := Lib.hid hlen
  have HH := Lib.hid hb
  clear hsp hlen hb
  go_enter Try.func5, Try.ntmps5
  go_wp2_with fail
  refine HSH.out.mono ?_
  rintro e w1 ⟨rfl, hb1⟩
  have HW := Lib.hid hb1
  clear hb1 HSH
  go_wp2_with fail
  have C := pnorm_bad z0 a0 cap0 len0 a1 w1 (HS.out _ HW.out) HL.out (by omega) HH.out HIN.out
  refine C.mono ?_
  clear C
  rintro e w2 ⟨rfl, hb⟩
  replace HW := Lib.hid (below_trans HW.out hb)
  clear hb
  go_wp2_with fail
  have C := prest_bad z0 a0 cap0 len0 a1 w2 (HS.out _ HW.out) HL.out (by omega) HH.out HIN.out
  refine C.mono ?_
  clear C
  rintro e w3 ⟨rfl, hb⟩
  replace HW := Lib.hid (below_trans HW.out hb)
  clear hb
  go_wp2
  go_ret
  exact ⟨rfl, HW.out⟩

set_option maxRecDepth 100000 in
set_option maxHeartbeats 4000000 in
theorem lapped (a0 : Option Addr) (len0 cap0 : Nat) (z0 : List SpI) (a1 : Int) (w : World) (h0 : IsSpans w a0 len0 z0) (hl : len0 ≤ 40) (N : List Sp) (n : Nat) (hn : a1 = n) (hf : Fits z0 N n) (hp : ¬ N.Pairwise Apart) :
    Calls Try.prog 5 #[.slice a0 len0 cap0, .int .i64 a1] w fun e w' => e = .returned (.bool true) ∧ Below w.heap.size w w' := by
  obtain ⟨hlen, hsp, _⟩ := h0
  have hI : ¬ (40 : Int) < len0 := by omega
  have HSH := Lib.hid (shown_any w)
  have HS := Lib.hid (fun W (hb : Below w.heap.size w W) => SpansAt.below hsp hb)
  have HL := Lib.hid hlen
  subst hn
  have HH := Lib.hid hf
  have HPW := Lib.hid hp
  clear hsp hlen hf hp
  go_enter Try.func5, Try.ntmps5
  go_wp2_with fail
  refine HSH.out.mono ?_
  rintro e w1 ⟨rfl, hb1⟩
  have HW := Lib.hid hb1
  clear hb1 HSH
  go_wp2_with fail
  refine (pnorm_good z0 N n a0 cap0 len0 w1 (HS.out _ HW.out) HL.out (by omega) HH.out).mono ?_
  rintro e w2 hr
  obtain ⟨rfl, hb⟩ := hr.no HPW.out
  clear hr
  replace HW := Lib.hid (below_trans HW.out hb)
  clear hb
  go_wp2_with fail
  refine (prest_good z0 N n a0 cap0 len0 w2 (HS.out _ HW.out) HL.out (by omega) HH.out).mono ?_
  rintro e w3 hr
  obtain ⟨rfl, hb⟩ := hr.no HPW.out
  clear hr
  replace HW := Lib.hid (below_trans HW.out hb)
  clear hb
  go_wp2
  go_ret
  exact ⟨rfl, HW.out⟩

set_option maxRecDepth 100000 in
set_option maxHeartbeats 4000000 in
theorem fine (a0 : Option Addr) (len0 cap0 : Nat) (z0 : List SpI) (a1 : Int) (w : World) (h0 : IsSpans w a0 len0 z0) (hl : len0 ≤ 40) (N : List Sp) (n : Nat) (hn : a1 = n) (hf : Fits z0 N n) (hp : N.Pairwise Apart) :
    Calls Try.prog 5 #[.slice a0 len0 cap0, .int .i64 a1] w fun e w' => e = .returned (.bool true) ∧ Below w.heap.size w w' := by
  obtain ⟨hlen, hsp, _⟩ := h0
  have hI : ¬ (40 : Int) < len0 := by omega
  have HSH := Lib.hid (shown_any w)
  have HS := Lib.hid (fun W (hb : Below w.heap.size w W) => SpansAt.below hsp hb)
  have HL := Lib.hid hlen
  subst hn
  have HH := Lib.hid hf
  have HPW := Lib.hid hp
  have HEQ := Lib.hid hf.eq
  have HFA := Lib.hid (fits_rows (f := memB N) hf.lo hf.hi)
  have HFB := Lib.hid (fits_rows (f := fun x => !memB N x) hf.lo hf.hi)
  have HRR := Lib.hid (rest_rest (memB N) n)
  have HCA := Lib.hid (rows_ok (memB N) n).ch
  have HCB := Lib.hid (rows_ok (fun x => !memB N x) n).ch
  have HMA := Lib.hid (rows_ok (memB N) n).mem
  have HMB := Lib.hid (rows_ok (fun x => !memB N x) n).mem
  have HTA := Lib.hid (total_rows (memB N) n)
  have HTB := Lib.hid (total_rows (fun x => !memB N x) n)
  have HTN := Lib.hid (total_cnt hp hf.fit)
  have HLA := Lib.hid (rows_len (memB N) n)
  have HLB := Lib.hid (rows_len (fun x => !memB N x) n)
  have hcn := cnt_not (memB N) n
  have hn1 := hf.lo
  have hn8 := hf.hi
  have HNN : Hid (memB N n = false) := by
    rw [Bool.eq_false_iff]
    intro e
    rw [memB_iff] at e
    obtain ⟨s, hs, h1, h2⟩ := e
    have := hf.fit s hs
    omega
  clear hsp hlen hf hp
  go_enter Try.func5, Try.ntmps5
  go_wp2_with fail
  refine HSH.out.mono ?_
  rintro e w1 ⟨rfl, hb1⟩
  have HW := Lib.hid hb1
  clear hb1 HSH
  go_wp2_with fail
  refine (pnorm_good z0 N n a0 cap0 len0 w1 (HS.out _ HW.out) HL.out (by omega) HH.out).mono ?_
  rintro e w2 hr
  obtain ⟨v, rfl, hfr⟩ := hr.ok HPW.out
  obtain ⟨b0, k0, rfl, hs, hb⟩ := row_of hfr
  clear hr hfr
  replace HW := Lib.hid (below_trans HW.out hb)
  have HA := Lib.hid hs
  clear hs hb
  go_wp2_with fail
  refine (prest_good z0 N n a0 cap0 len0 w2 (HS.out _ HW.out) HL.out (by omega) HH.out).mono ?_
  rintro e w3 hr
  obtain ⟨v, rfl, hfr⟩ := hr.ok HPW.out
  obtain ⟨b1, k1, rfl, hs, hb⟩ := row_of hfr
  clear hr hfr
  replace HW := Lib.hid (below_trans HW.out hb)
  replace HA := Lib.hid (SpansAt.below HA.out hb)
  have HB := Lib.hid hs
  clear hs hb
  generalize hAA : rows (memB N) n = A at *
  generalize hBB : rows (fun x => !memB N x) n = B at *
  clear hAA hBB
  rw [castS_length, castS_length]
  go_wp2_with fail
  refine (prest_good (castS B) B n b1 k1 B.length w3 HB.out (castS_length _) (by have := HLB.out; omega) HFB.out).mono ?_
  rintro e w4 hr
  obtain ⟨v, rfl, hfr⟩ := hr.ok HCB.out.apart
  rw [HRR.out] at hfr
  obtain ⟨b2, k2, rfl, hs, hb⟩ := row_of hfr
  clear hr hfr
  replace HW := Lib.hid (below_trans HW.out hb)
  replace HA := Lib.hid (SpansAt.below HA.out hb)
  replace HB := Lib.hid (SpansAt.below HB.out hb)
  have HC := Lib.hid hs
  clear hs hb
  rw [castS_length]
  go_wp2_with fail
  have C := same_any (castS A) (castS A) b0 b2 k0 k2 A.length A.length w4 HA.out HC.out (castS_length _) (castS_length _) (by have := HLA.out; omega)
  rw [decide_eq_true rfl] at C
  refine C.mono ?_
  clear C
  rintro e w5 ⟨rfl, hb⟩
  replace HW := Lib.hid (below_trans HW.out hb)
  replace HA := Lib.hid (SpansAt.below HA.out hb)
  replace HB := Lib.hid (SpansAt.below HB.out hb)
  replace HC := Lib.hid (SpansAt.below HC.out hb)
  clear hb
  go_wp2_with fail
  refine (pright_good (castS A) A n b0 k0 A.length w5 HA.out (castS_length _) (by have := HLA.out; omega) HFA.out).mono ?_
  rintro e w6 hr
  obtain ⟨rfl, hb⟩ := hr.yes HCA.out
  clear hr
  replace HW := Lib.hid (below_trans HW.out hb)
  replace HA := Lib.hid (SpansAt.below HA.out hb)
  replace HB := Lib.hid (SpansAt.below HB.out hb)
  replace HC := Lib.hid (SpansAt.below HC.out hb)
  clear hb
  go_wp2_with fail
  refine (pright_good (castS B) B n b1 k1 B.length w6 HB.out (castS_length _) (by have := HLB.out; omega) HFB.out).mono ?_
  rintro e w7 hr
  obtain ⟨rfl, hb⟩ := hr.yes HCB.out
  clear hr
  replace HW := Lib.hid (below_trans HW.out hb)
  replace HA := Lib.hid (SpansAt.below HA.out hb)
  replace HB := Lib.hid (SpansAt.below HB.out hb)
  replace HC := Lib.hid (SpansAt.below HC.out hb)
  clear hb
  go_wp2_with fail
  have C := ptotal A b0 k0 A.length w7 HA.out rfl (by have := HLA.out; omega) (fits_total HFA.out)
  rw [HTA.out] at C
  refine C.mono ?_
  clear C
  rintro e w8 ⟨rfl, hb⟩
  replace HW := Lib.hid (below_trans HW.out hb)
  replace HA := Lib.hid (SpansAt.below HA.out hb)
  replace HB := Lib.hid (SpansAt.below HB.out hb)
  replace HC := Lib.hid (SpansAt.below HC.out hb)
  clear hb
  go_wp2_with fail
  have C := ptotal B b1 k1 B.length w8 HB.out rfl (by have := HLB.out; omega) (fits_total HFB.out)
  rw [HTB.out] at C
  refine C.mono ?_
  clear C
  rintro e w9 ⟨rfl, hb⟩
  replace HW := Lib.hid (below_trans HW.out hb)
  replace HA := Lib.hid (SpansAt.below HA.out hb)
  replace HB := Lib.hid (SpansAt.below HB.out hb)
  replace HC := Lib.hid (SpansAt.below HC.out hb)
  clear hb
  generalize hc2 : cnt (fun x => !memB N x) n = TB at *
  generalize hc1 : cnt (memB N) n = TA at *
  clear hc1 hc2
  have hsum : (TA : Int) + TB = n := by omega
  go_wp2_with fail
  have C := ptotal A b0 k0 A.length w9 HA.out rfl (by have := HLA.out; omega) (fits_total HFA.out)
  rw [HTA.out] at C
  refine C.mono ?_
  clear C
  rintro e w10 ⟨rfl, hb⟩
  replace HW := Lib.hid (below_trans HW.out hb)
  replace HA := Lib.hid (SpansAt.below HA.out hb)
  replace HB := Lib.hid (SpansAt.below HB.out hb)
  replace HC := Lib.hid (SpansAt.below HC.out hb)
  clear hb
  have hz := HS.out _ HW.out
  rw [HEQ.out] at hz
  have HZ := Lib.hid hz
  clear hz
  go_wp2_with fail
  have C := ptotal N a0 cap0 len0 w10 HZ.out (by rw [← HL.out, HEQ.out, castS_length]) (by omega) (fits_total HH.out)
  rw [HTN.out] at C
  refine C.mono ?_
  clear C
  rintro e w11 ⟨rfl, hb⟩
  replace HW := Lib.hid (below_trans HW.out hb)
  replace HA := Lib.hid (SpansAt.below HA.out hb)
  replace HB := Lib.hid (SpansAt.below HB.out hb)
  replace HC := Lib.hid (SpansAt.below HC.out hb)
  clear hb
  replace HZ := Lib.hid (HS.out _ HW.out)
  rw [HEQ.out] at HZ
  clear HC
  have rel : ∀ (M : List Sp) (a : Option Addr) (c len : Nat) (q : Int), q ≤ 9223372036854775807 → SpansAt w11 a (castS M) → M.length = len → len ≤ 100000 → (∀ s ∈ M, s.1 + s.2 ≤ 8192) → ∀ W, Below w11.heap.size w11 W → Calls Try.prog 19 #[.slice a len c, .int .i64 q] W fun e w' => e = .returned (.bool (hasI M q)) ∧ Below w11.heap.size w11 w' := fun M a c len q hq hs hl hle hm W hb => (phas_any M a c len q hq W (SpansAt.below hs hb) hl hle hm).mono fun _ _ ⟨he, hw⟩ => ⟨he, below_trans hb hw⟩
  have HHA := Lib.hid (fun q hq => rel A b0 k0 A.length q hq HA.out rfl (by have := HLA.out; omega) (fun s hs => by have := HFA.out.fit s hs; have := HFA.out.hi; omega))
  have HHB := Lib.hid (fun q hq => rel B b1 k1 B.length q hq HB.out rfl (by have := HLB.out; omega) (fun s hs => by have := HFB.out.fit s hs; have := HFB.out.hi; omega))
  have HHN := Lib.hid (fun q hq => rel N a0 cap0 len0 q hq HZ.out (by rw [← HL.out, HEQ.out, castS_length]) (by omega) (fun s hs => by have := HH.out.fit s hs; have := HH.out.hi; omega))
  clear rel
  go_wp2
  go_loopw [12] (fun i wr => ∃ q : Int, i = .int .i64 q ∧ -1 ≤ q ∧ q ≤ (n : Int) + 1 ∧ Below w11.heap.size w11 wr) (fun i _ => ((n : Int) + 1 - intOf i).toNat)
  case atStart => exact ⟨-1, rfl, by omega, by omega, Below.refl _ _⟩
  case round =>
    obtain ⟨q, rfl, hq1, hq2, hB⟩ := hrel
    have HA1 := Lib.hid (HHA.out q (by omega))
    have HB1 := Lib.hid (HHB.out q (by omega))
    have HN1 := Lib.hid (HHN.out q (by omega))
    by_cases hle : q ≤ (n : Int)
    · by_cases hin : 0 ≤ q ∧ q < (n : Int)
      · obtain ⟨h1, h2⟩ := hin
        obtain ⟨x, rfl⟩ : ∃ x : Nat, q = x := ⟨q.toNat, by omega⟩
        have hx : x < n := by omega
        have eA : hasI A x = memB N x := by rw [hasI_nat, HMA.out, decide_eq_true hx]; rfl
        have eB : hasI B x = !memB N x := by rw [hasI_nat, HMB.out, decide_eq_true hx]; rfl
        have eN : hasI N x = memB N x := hasI_nat N x
        rw [eA] at HA1
        rw [eB] at HB1
        rw [eN] at HN1
        clear eA eB eN
        have hne : ((x : Int) == n) = false := by simp; omega
        have hx0 : ¬ (x : Int) < 0 := by omega
        cases hm : memB N x <;> (rw [hm] at HA1 HB1 HN1; clear hm; go_wp2_with (first | (go_at_call 19; (with_reducible refine (HA1.out _ (by assumption)).mono ?_); rintro e w5 ⟨rfl, hbw⟩) | (go_at_call 19; (with_reducible refine (HB1.out _ (by assumption)).mono ?_); rintro e w5 ⟨rfl, hbw⟩) | (go_at_call 19; (with_reducible refine (HN1.out _ (by assumption)).mono ?_); rintro e w5 ⟨rfl, hbw⟩)); exact ⟨⟨(x : Int) + 1, by go_num, by omega, by omega, by assumption⟩, by simp [intOf]; omega⟩)
      · have eA : hasI A q = false := by
          by_cases h0 : q < 0
          · exact hasI_neg A h0
          · have e : q = ((n : Nat) : Int) := by omega
            rw [e, hasI_nat, HMA.out]
            simp
        have eB : hasI B q = false := by
          by_cases h0 : q < 0
          · exact hasI_neg B h0
          · have e : q = ((n : Nat) : Int) := by omega
            rw [e, hasI_nat, HMB.out]
            simp
        have eN : hasI N q = false := by
          by_cases h0 : q < 0
          · exact hasI_neg N h0
          · have e : q = ((n : Nat) : Int) := by omega
            rw [e, hasI_nat]
            exact HNN.out
        rw [eA] at HA1
        rw [eB] at HB1
        rw [eN] at HN1
        clear eA eB eN
        by_cases h0 : q < 0
        · have h0' : ¬ 0 ≤ q := by omega
          go_wp2_with (first | (go_at_call 19; (with_reducible refine (HA1.out _ (by assumption)).mono ?_); rintro e w5 ⟨rfl, hbw⟩) | (go_at_call 19; (with_reducible refine (HB1.out _ (by assumption)).mono ?_); rintro e w5 ⟨rfl, hbw⟩) | (go_at_call 19; (with_reducible refine (HN1.out _ (by assumption)).mono ?_); rintro e w5 ⟨rfl, hbw⟩))
          exact ⟨⟨q + 1, by go_num, by omega, by omega, by assumption⟩, by simp [intOf]; omega⟩
        · have e : q = ((n : Nat) : Int) := by omega
          subst e
          have h0' : (0 : Int) ≤ n := by omega
          go_wp2_with (first | (go_at_call 19; (with_reducible refine (HA1.out _ (by assumption)).mono ?_); rintro e w5 ⟨rfl, hbw⟩) | (go_at_call 19; (with_reducible refine (HB1.out _ (by assumption)).mono ?_); rintro e w5 ⟨rfl, hbw⟩) | (go_at_call 19; (with_reducible refine (HN1.out _ (by assumption)).mono ?_); rintro e w5 ⟨rfl, hbw⟩))
          exact ⟨⟨(n : Int) + 1, by go_num, by omega, by omega, by assumption⟩, by simp [intOf]⟩
    · have HWE := Lib.hid (below_trans HW.out hB)
      go_wp2
      go_ret
      exact ⟨rfl, HWE.out⟩

theorem walk (a0 : Option Addr) (len0 cap0 : Nat) (z0 : List SpI) (a1 : Int) (_ : (Lit.int .i64 a1).wf = true) (w : World) (h0 : IsSpans w a0 len0 z0) :
    Calls Try.prog 5 #[.slice a0 len0 cap0, .int .i64 a1] w fun e w' => e = .returned (.bool true) ∧ Below w.heap.size w w' := by
  by_cases hl : len0 ≤ 40
  · rcases bad_or_fits z0 a1 with hb | ⟨N, n, hn, hf⟩
    · exact bad a0 len0 cap0 z0 a1 w h0 hl hb
    · by_cases hp : N.Pairwise Apart
      · exact fine a0 len0 cap0 z0 a1 w h0 hl N n hn hf hp
      · exact lapped a0 len0 cap0 z0 a1 w h0 hl N n hn hf hp
  · exact long a0 len0 cap0 a1 w hl

set_option maxRecDepth 100000 in
theorem lifted (os : Os) (started : os.Started) (H : Type) (enc : TypeId × Value → H) :
    ReturnsInHanded {} Try.checked os 5 .any (Rows.spanTurnsSpec.pre6 enc Try.prog Try.f5 Rows.spanTurnsRow.domain false) (Rows.spanTurnsSpec.post enc Try.prog Try.f5 false true false false) := by
  refine returnsInHanded_of_change (C := Try.checked) own started (by kernel_rfl) Try.func5
    (ChangeSpec.witness6 (enc := enc) (C := Try.checked) false ⟨#[], #[.slice none 0 0, .int .i64 0], []⟩ 8 (by kernel_rfl) (by kernel_rfl) (by kernel_rfl) (by kernel_rfl)) ?_
  intro W base args ds gs before hval0 hW _ _
  have hval : ∀ (j : Nat) t v, Try.f5.params[j]? = some t → args[j]? = some v → Value.okWide Try.prog W .any base t v := hval0
  have hW' := hW
  obtain ⟨p, q, hA0, hV, rfl, hfz, hnd⟩ := hW
  have hA : DataW.TrodAll enc Try.prog W 0 (fun _ => true) true Try.f5.params.toList args.toList ds p := hA0
  rw [Try.params5] at hA hval
  obtain ⟨v0, vs0, d0, ds0, p0, q0, hargs, rfl, rfl, h0, r0⟩ := trodAll_cons hA
  obtain ⟨v1, vs1, d1, ds1, p1, q1, rfl, rfl, rfl, h1, r1⟩ := trodAll_cons r0
  obtain ⟨rfl, rfl, rfl⟩ := trodAll_nil r1
  obtain rfl : args = #[v0, v1] := by cases args; simp_all
  obtain ⟨rfl, rfl⟩ := trodVars_none hV
  obtain ⟨a0, len0, cap0, rfl⟩ := okWide_slice Try.underlying22 (hval 0 22 v0 rfl rfl)
  have k0 := h0
  have lt0 : ∀ x ∈ p0, x.block < W.heap.size := by obtain ⟨m, hm⟩ := k0; exact DataW.trod_lt m _ _ _ hm
  obtain ⟨z0, w0⟩ : ∃ zs, IsSpans W a0 len0 zs := by
    obtain ⟨fuel, hf⟩ := h0
    exact open_spans hf
  obtain ⟨a1, rfl, rfl, rfl, w1⟩ := open_int Try.underlying3 (hval 1 3 v1 rfl rfl) h1
  clear hA0 hval0
  refine (walk a0 len0 cap0 z0 a1 w1 W w0).mono fun e W' ⟨he, bel⟩ => ?_
  subst he
  exact ⟨_, rfl, _, _, _, [], _, [], hW', trodAll_mk1 (shut_bool Try.underlying4 _), (trodAll_cons_mk (Below.trod laidOut (by kernel_rfl) (of_decide_eq_true (by kernel_rfl)) k0 bel lt0) (trodAll_cons_mk (shut_int Try.underlying3 w1) trodAll_mk0)), rfl, bel.frame _, fun h => by cases h⟩

theorem holds : Rows.SpanTurnsSaid :=
  OpenClaim.holds_of_wide 5 Try.f5 rfl rfl rfl rfl rfl rfl rfl ⟨rfl, rfl, rfl, rfl, rfl⟩ rfl rfl rfl rfl rfl (by kernel_rfl) Try.func5 (by kernel_rfl)
    (of_decide_eq_true (by kernel_rfl)) (by unfold Func.isWrapper; first | (rw [if_pos (by decide +kernel)]; kernel_rfl) | (rw [if_neg (by decide +kernel)]; exact ⟨rfl, rfl⟩))
    (fun os started H enc _ => lifted os started H enc)

end Go.Proofs.Ytcknpmlekpgafaa.spanTurns
