/-
  SpanParts: for every input the law answers true: what is taken, and what is left, are all there was; given back, they are the row. Conditions: none.
-/
import Derived.Test.YtcknpmlekpgafaaSpApp
namespace Go.Rc5

theorem cnt_mono (f : Nat → Bool) {x y : Nat} (h : x ≤ y) : cnt f x ≤ cnt f y := by
  induction y with
  | zero => rw [show x = 0 by omega]; exact Nat.le_refl _
  | succ y ih =>
    by_cases e : x = y + 1
    · rw [e]; exact Nat.le_refl _
    · have := ih (by omega)
      rw [cnt]
      omega

theorem take_ahead {K : List Sp} (h : Ch 0 K) (n : Nat) {s t : Sp} (hs : s ∈ (takeL K n).1) (ht : t ∈ (takeL K n).2) : s.1 + s.2 ≤ t.1 := by
  obtain ⟨h1, h2, h3⟩ := takeL_spec h n
  have s1 := h1.some s hs
  have t1 := h2.some t ht
  have a := (h3 (s.1 + s.2 - 1)).1
  have b := (h3 t.1).2
  rw [show memB (takeL K n).1 (s.1 + s.2 - 1) = true from (memB_iff _ _).2 ⟨s, hs, by omega, by omega⟩] at a
  rw [show memB (takeL K n).2 t.1 = true from (memB_iff _ _).2 ⟨t, ht, Nat.le_refl _, by omega⟩] at b
  have a' := (Bool.and_eq_true_iff.1 a.symm).2
  have b' := (Bool.and_eq_true_iff.1 b.symm).2
  simp only [decide_eq_true_eq, Bool.not_eq_true', decide_eq_false_iff_not] at a' b'
  by_cases hle : t.1 ≤ s.1 + s.2 - 1
  · have := cnt_mono (memB K) hle
    omega
  · omega

theorem both_mem {K : List Sp} (h : Ch 0 K) (n x : Nat) : memB ((takeL K n).2 ++ (takeL K n).1) x = memB K x := by
  obtain ⟨_, _, h3⟩ := takeL_spec h n
  rw [memB_append, (h3 x).1, (h3 x).2]
  cases memB K x <;> cases decide (cnt (memB K) x < n) <;> rfl

theorem getD_mem {l : List Sp} {i : Nat} (h : i < l.length) : l.getD i (0, 0) ∈ l := by
  rw [List.getD_eq_getElem?_getD, List.getElem?_eq_getElem h]
  exact List.getElem_mem _

end Go.Rc5
namespace Go.Proofs.Ytcknpmlekpgafaa.spanParts
open Go.ChangeShapes Go.WideShapes Go.ChangeAt Go.RowKit Go.Rc5
open Go.ChangeMaps (open_string shut_string)

theorem long (a0 : Option Addr) (len0 cap0 : Nat) (a1 : Int) (a2 : Int) (w : World) (h : ¬ len0 ≤ 40) :
    Calls Try.prog 6 #[.slice a0 len0 cap0, .int .i64 a1, .int .i64 a2] w fun e w' => e = .returned (.bool true) ∧ Below w.heap.size w w' := by
  have hI : (40 : Int) < len0 := by omega
  have HSH := Lib.hid (shown_any w)
  go_enter Try.func6, Try.ntmps6
  go_wp2_with (first | (go_at_call 9; (with_reducible refine HSH.out.mono ?_); rintro e w1 ⟨rfl, hb1⟩))
  go_ret
  exact ⟨rfl, hb1⟩

set_option maxRecDepth 100000 in
set_option maxHeartbeats 4000000 in
theorem bad (a0 : Option Addr) (len0 cap0 : Nat) (z0 : List SpI) (a1 : Int) (a2 : Int) (w : World) (h0 : IsSpans w a0 len0 z0) (hl : len0 ≤ 40) (hb : Bad z0 a1) :
    Calls Try.prog 6 #[.slice a0 len0 cap0, .int .i64 a1, .int .i64 a2] w fun e w' => e = .returned (.bool true) ∧ Below w.heap.size w w' := by
  obtain ⟨hlen, hsp, hi0⟩ := h0
  have HIN : Hid (∀ s ∈ z0, In64 s.1) := fun s hs => (hi0 s hs).1
  clear hi0
  have hI : ¬ (40 : Int) < len0 := by omega
  have HSH := Lib.hid (shown_any w)
  have HS := Lib.hid (fun W (hb : Below w.heap.size w W) => SpansAt.below hsp hb)
  have HL := Lib.hid hlen
  have HH := Lib.hid hb
  clear hsp hlen hb
  go_enter Try.func6, Try.ntmps6
  go_wp2_with fail
  refine HSH.out.mono ?_
  rintro e w1 ⟨rfl, hb1⟩
  have HW := Lib.hid hb1
  clear hb1 HSH
  go_wp2_with fail
  have C := pnorm_bad z0 a0 cap0 len0 a1 w1 (HS.out _ HW.out) HL.out (by omega) HH.out HIN.out
  refine C.mono ?_
  clear C
  rintro e w2 ⟨rfl, hb⟩
  replace HW := Lib.hid (below_trans HW.out hb)
  clear hb
  go_wp2
  go_ret
  exact ⟨rfl, HW.out⟩

set_option maxRecDepth 100000 in
set_option maxHeartbeats 4000000 in
theorem lapped (a0 : Option Addr) (len0 cap0 : Nat) (z0 : List SpI) (a1 : Int) (a2 : Int) (w : World) (h0 : IsSpans w a0 len0 z0) (hl : len0 ≤ 40) (N : List Sp) (n : Nat) (hn : a1 = n) (hf : Fits z0 N n) (hp : ¬ N.Pairwise Apart) :
    Calls Try.prog 6 #[.slice a0 len0 cap0, .int .i64 a1, .int .i64 a2] w fun e w' => e = .returned (.bool true) ∧ Below w.heap.size w w' := by
  obtain ⟨hlen, hsp, _⟩ := h0
  have hI : ¬ (40 : Int) < len0 := by omega
  have HSH := Lib.hid (shown_any w)
  have HS := Lib.hid (fun W (hb : Below w.heap.size w W) => SpansAt.below hsp hb)
  have HL := Lib.hid hlen
  subst hn
  have HH := Lib.hid hf
  have HPW := Lib.hid hp
  clear hsp hlen hf hp
  go_enter Try.func6, Try.ntmps6
  go_wp2_with fail
  refine HSH.out.mono ?_
  rintro e w1 ⟨rfl, hb1⟩
  have HW := Lib.hid hb1
  clear hb1 HSH
  go_wp2_with fail
  refine (pnorm_good z0 N n a0 cap0 len0 w1 (HS.out _ HW.out) HL.out (by omega) HH.out).mono ?_
  rintro e w2 hr
  obtain ⟨rfl, hb⟩ := hr.no HPW.out
  clear hr
  replace HW := Lib.hid (below_trans HW.out hb)
  clear hb
  go_wp2
  go_ret
  exact ⟨rfl, HW.out⟩

set_option maxRecDepth 100000 in
set_option maxHeartbeats 4000000 in
theorem below (a0 : Option Addr) (len0 cap0 : Nat) (z0 : List SpI) (a1 : Int) (a2 : Int) (w : World) (h0 : IsSpans w a0 len0 z0) (hl : len0 ≤ 40) (N : List Sp) (n : Nat) (hn : a1 = n) (hf : Fits z0 N n) (hp : N.Pairwise Apart) (hm : a2 < 0) :
    Calls Try.prog 6 #[.slice a0 len0 cap0, .int .i64 a1, .int .i64 a2] w fun e w' => e = .returned (.bool true) ∧ Below w.heap.size w w' := by
  obtain ⟨hlen, hsp, _⟩ := h0
  have hI : ¬ (40 : Int) < len0 := by omega
  have HSH := Lib.hid (shown_any w)
  have HS := Lib.hid (fun W (hb : Below w.heap.size w W) => SpansAt.below hsp hb)
  have HL := Lib.hid hlen
  subst hn
  have HH := Lib.hid hf
  have HPW := Lib.hid hp
  have HCK := Lib.hid (rows_ok (memB N) n).ch
  have HFK := Lib.hid (rows_fit (memB N) n)
  have HKL := Lib.hid (rows_len (memB N) n)
  have hn8 := hf.hi
  have hn1 := hf.lo
  have HM := Lib.hid hm
  clear hsp hlen hf hp hm
  go_enter Try.func6, Try.ntmps6
  go_wp2_with fail
  refine HSH.out.mono ?_
  rintro e w1 ⟨rfl, hb1⟩
  have HW := Lib.hid hb1
  clear hb1 HSH
  go_wp2_with fail
  refine (pnorm_good z0 N n a0 cap0 len0 w1 (HS.out _ HW.out) HL.out (by omega) HH.out).mono ?_
  rintro e w2 hr
  obtain ⟨v, rfl, hfr⟩ := hr.ok HPW.out
  obtain ⟨b0, k0, rfl, hs, hb⟩ := row_of hfr
  clear hr hfr
  replace HW := Lib.hid (below_trans HW.out hb)
  have HK := Lib.hid hs
  clear hs hb
  generalize rows (memB N) n = K at *
  rw [castS_length]
  go_wp2_with fail
  have C := ptake_no K b0 k0 K.length a2 w2 HK.out rfl (by have := HKL.out; omega) HCK.out (fun s hs => by have := HFK.out s hs; omega) (.inl HM.out)
  refine C.mono ?_
  clear C
  rintro e w3 ⟨rfl, hb⟩
  replace HW := Lib.hid (below_trans HW.out hb)
  replace HK := Lib.hid (SpansAt.below HK.out hb)
  clear hb
  have hm := HM.out
  go_wp2
  go_ret
  exact ⟨rfl, HW.out⟩

set_option maxRecDepth 100000 in
set_option maxHeartbeats 4000000 in
theorem over (a0 : Option Addr) (len0 cap0 : Nat) (z0 : List SpI) (a1 : Int) (a2 : Int) (w : World) (h0 : IsSpans w a0 len0 z0) (hl : len0 ≤ 40) (N : List Sp) (n : Nat) (hn : a1 = n) (hf : Fits z0 N n) (hp : N.Pairwise Apart) (hz0 : ¬ a2 < 0) (hm : ((total (rows (memB N) n) : Nat) : Int) < a2) :
    Calls Try.prog 6 #[.slice a0 len0 cap0, .int .i64 a1, .int .i64 a2] w fun e w' => e = .returned (.bool true) ∧ Below w.heap.size w w' := by
  obtain ⟨hlen, hsp, _⟩ := h0
  have hI : ¬ (40 : Int) < len0 := by omega
  have HSH := Lib.hid (shown_any w)
  have HS := Lib.hid (fun W (hb : Below w.heap.size w W) => SpansAt.below hsp hb)
  have HL := Lib.hid hlen
  subst hn
  have HH := Lib.hid hf
  have HPW := Lib.hid hp
  have HCK := Lib.hid (rows_ok (memB N) n).ch
  have HFK := Lib.hid (rows_fit (memB N) n)
  have HKL := Lib.hid (rows_len (memB N) n)
  have hn8 := hf.hi
  have hn1 := hf.lo
  have HM := Lib.hid hm
  clear hsp hlen hf hp hm
  go_enter Try.func6, Try.ntmps6
  go_wp2_with fail
  refine HSH.out.mono ?_
  rintro e w1 ⟨rfl, hb1⟩
  have HW := Lib.hid hb1
  clear hb1 HSH
  go_wp2_with fail
  refine (pnorm_good z0 N n a0 cap0 len0 w1 (HS.out _ HW.out) HL.out (by omega) HH.out).mono ?_
  rintro e w2 hr
  obtain ⟨v, rfl, hfr⟩ := hr.ok HPW.out
  obtain ⟨b0, k0, rfl, hs, hb⟩ := row_of hfr
  clear hr hfr
  replace HW := Lib.hid (below_trans HW.out hb)
  have HK := Lib.hid hs
  clear hs hb
  generalize rows (memB N) n = K at *
  rw [castS_length]
  go_wp2_with fail
  have C := ptake_no K b0 k0 K.length a2 w2 HK.out rfl (by have := HKL.out; omega) HCK.out (fun s hs => by have := HFK.out s hs; omega) (.inr HM.out)
  refine C.mono ?_
  clear C
  rintro e w3 ⟨rfl, hb⟩
  replace HW := Lib.hid (below_trans HW.out hb)
  replace HK := Lib.hid (SpansAt.below HK.out hb)
  clear hb
  go_wp2_with fail
  have C := ptotal K b0 k0 K.length w3 HK.out rfl (by have := HKL.out; omega) (fun s hs => by have := HFK.out s hs; omega)
  refine C.mono ?_
  clear C
  rintro e w4 ⟨rfl, hb⟩
  replace HW := Lib.hid (below_trans HW.out hb)
  replace HK := Lib.hid (SpansAt.below HK.out hb)
  clear hb
  have hm := HM.out
  generalize total K = TK at *
  go_wp2
  go_ret
  exact ⟨rfl, HW.out⟩

set_option maxRecDepth 100000 in
set_option maxHeartbeats 4000000 in
theorem within (a0 : Option Addr) (len0 cap0 : Nat) (z0 : List SpI) (a1 : Int) (a2 : Int) (w : World) (h0 : IsSpans w a0 len0 z0) (hl : len0 ≤ 40) (N : List Sp) (n : Nat) (hn : a1 = n) (hf : Fits z0 N n) (hp : N.Pairwise Apart) (A : Nat) (hA : a2 = A) (hm : A ≤ total (rows (memB N) n)) :
    Calls Try.prog 6 #[.slice a0 len0 cap0, .int .i64 a1, .int .i64 a2] w fun e w' => e = .returned (.bool true) ∧ Below w.heap.size w w' := by
  obtain ⟨hlen, hsp, _⟩ := h0
  have hI : ¬ (40 : Int) < len0 := by omega
  have HSH := Lib.hid (shown_any w)
  have HS := Lib.hid (fun W (hb : Below w.heap.size w W) => SpansAt.below hsp hb)
  have HL := Lib.hid hlen
  subst hA
  subst hn
  have HH := Lib.hid hf
  have HPW := Lib.hid hp
  have HCK := Lib.hid (rows_ok (memB N) n).ch
  have HFK := Lib.hid (rows_fit (memB N) n)
  have HKL := Lib.hid (rows_len (memB N) n)
  have hn8 := hf.hi
  have hn1 := hf.lo
  have HM := Lib.hid hm
  clear hsp hlen hf hp hm
  go_enter Try.func6, Try.ntmps6
  go_wp2_with fail
  refine HSH.out.mono ?_
  rintro e w1 ⟨rfl, hb1⟩
  have HW := Lib.hid hb1
  clear hb1 HSH
  go_wp2_with fail
  refine (pnorm_good z0 N n a0 cap0 len0 w1 (HS.out _ HW.out) HL.out (by omega) HH.out).mono ?_
  rintro e w2 hr
  obtain ⟨v, rfl, hfr⟩ := hr.ok HPW.out
  obtain ⟨b0, k0, rfl, hs, hb⟩ := row_of hfr
  clear hr hfr
  replace HW := Lib.hid (below_trans HW.out hb)
  have HK := Lib.hid hs
  clear hs hb
  generalize rows (memB N) n = K at *
  rw [castS_length]
  have HSA := Lib.hid (takeL_spec HCK.out A)
  have HTA := Lib.hid (takeL_total K A HM.out)
  have HLN := Lib.hid (takeL_len K A)
  have HO := Lib.hid (rows_one (m := 8192) HCK.out (fun s hs => by have := HFK.out s hs; omega) A)
  have HT := Lib.hid (rows_two (m := 8192) HCK.out (fun s hs => by have := HFK.out s hs; omega) A)
  have HAH := Lib.hid (fun s t hs ht => take_ahead HCK.out A (s := s) (t := t) hs ht)
  have HBM := Lib.hid (both_mem HCK.out A)
  have HTB := Lib.hid (total_bound K (fun s hs => by have := HFK.out s hs; omega))
  have HFX : Hid (∀ x, memB K x = true → x < n) := fun x hx => by
    rw [memB_iff] at hx
    obtain ⟨s, hs, h1, h2⟩ := hx
    have := HFK.out s hs
    omega
  go_wp2_with fail
  refine (ptake_yes K b0 k0 K.length A w2 HK.out rfl (by have := HKL.out; omega) HCK.out (fun s hs => by have := HFK.out s hs; omega) HM.out).mono ?_
  rintro e w3 ⟨v1, v2, rfl, hc⟩
  rw [HO.out, HT.out] at hc
  obtain ⟨b1, k1, rfl⟩ := hc.slice 0 rfl
  obtain ⟨b2, k2, rfl⟩ := hc.slice 1 rfl
  replace HW := Lib.hid (below_trans HW.out hc.bel)
  replace HK := Lib.hid (SpansAt.below HK.out hc.bel)
  have HX := Lib.hid (crew_spans hc 0 rfl)
  have HR := Lib.hid (crew_spans hc 1 rfl)
  have NX := Lib.hid (own_none (hc.own 0 rfl))
  have NR := Lib.hid (own_none (hc.own 1 rfl))
  clear hc HO HT
  generalize hXX : (takeL K A).1 = X at *
  generalize hRR : (takeL K A).2 = R at *
  clear hXX hRR
  rw [castS_length, castS_length]
  have hXR := HSA.out.2.2
  have HFR : Hid (∀ s ∈ R, s.1 + s.2 ≤ n) := ch_fit HSA.out.2.1 (fun x hx => HFX.out x (by rw [(hXR x).2] at hx; exact (Bool.and_eq_true_iff.1 hx).1))
  have HFX1 : Hid (∀ s ∈ X, s.1 + s.2 ≤ n) := ch_fit HSA.out.1 (fun x hx => HFX.out x (by rw [(hXR x).1] at hx; exact (Bool.and_eq_true_iff.1 hx).1))
  have HPP : Hid ((R ++ X).Pairwise Apart) := apart_append HSA.out.2.1.apart HSA.out.1.apart (fun x hx => by
    have h1 := (hXR x).1
    have h2 := (hXR x).2
    rw [hx] at h2
    have h4 := (Bool.and_eq_true_iff.1 h2.symm)
    have h5 : decide (cnt (memB K) x < A) = false := by simpa using h4.2
    rw [h1, h5, Bool.and_false])
  have HFT : Hid (Fits (castS (R ++ X)) (R ++ X) n) := ⟨hn1, hn8, rfl, fun s hs => by
    rcases List.mem_append.1 hs with h | h
    · exact HSA.out.2.1.some s h
    · exact HSA.out.1.some s h, fun s hs => by
    rcases List.mem_append.1 hs with h | h
    · exact HFR.out s h
    · exact HFX1.out s h⟩
  have HRZ : Hid (rows (memB (R ++ X)) n = K) := (rows_congr fun x _ => HBM.out x).trans (rows_mem HCK.out HFX.out)
  have HFTX : Hid (Fits (castS X) X n) := ⟨hn1, hn8, rfl, HSA.out.1.some, HFX1.out⟩
  have HFTR : Hid (Fits (castS R) R n) := ⟨hn1, hn8, rfl, HSA.out.2.1.some, HFR.out⟩
  clear hXR HBM
  have HE := Lib.hid ((Crew.start w3).empty 34 2)
  go_wp2_with (at_builtin; refine wpList_append_spans (M := []) (L := castS R) HE.out 0 rfl rfl (.tmp 60) (.tmp 61) rfl rfl b2 R.length k2 rfl (SpansAt.below HR.out ((Below.refl _ _).alloc (Nat.le_refl _) _)) (castS_length _) NR.out (by have := HKL.out; have := HLN.out; simp; omega) ?nx)
  case nx =>
    intro v3 wa hc
    have hc1 : Crew (fun _ => False) w3 [spT v3 (castS R)] wa := by simpa using hc
    have HC1 := Lib.hid hc1
    clear hc hc1
    go_wp2_with (at_builtin; refine wpList_append_spans (M := castS R) (L := castS X) HC1.out 0 rfl rfl (.tmp 62) (.tmp 63) rfl rfl b1 X.length k1 rfl (SpansAt.below HX.out HC1.out.bel) (castS_length _) NX.out (by have := HKL.out; have := HLN.out; rw [castS_length]; omega) ?ny)
    case ny =>
      intro v4 wb hc
      have hc1 : Crew (fun _ => False) w3 [spT v4 (castS (R ++ X))] wb := by rw [castS_append]; simpa using hc
      obtain ⟨b5, k5, rfl⟩ := hc1.slice 0 rfl
      have HC2 := Lib.hid hc1
      clear hc hc1
      replace HW := Lib.hid (below_trans HW.out HC2.out.bel)
      replace HX := Lib.hid (SpansAt.below HX.out HC2.out.bel)
      replace HR := Lib.hid (SpansAt.below HR.out HC2.out.bel)
      replace HK := Lib.hid (SpansAt.below HK.out HC2.out.bel)
      go_wp2_with fail
      refine (pnorm_good (castS (R ++ X)) (R ++ X) n b5 k5 _ wb (crew_spans HC2.out 0 rfl) rfl (by rw [castS_length, List.length_append]; have := HKL.out; have := HLN.out; omega) HFT.out).mono ?_
      rintro e wc hr
      obtain ⟨v, rfl, hfr⟩ := hr.ok HPP.out
      rw [HRZ.out] at hfr
      obtain ⟨b8, k8, rfl, hs, hb⟩ := row_of hfr
      clear hr hfr
      replace HW := Lib.hid (below_trans HW.out hb)
      replace HX := Lib.hid (SpansAt.below HX.out hb)
      replace HR := Lib.hid (SpansAt.below HR.out hb)
      replace HK := Lib.hid (SpansAt.below HK.out hb)
      have HO := Lib.hid hs
      clear hs hb
      rw [castS_length]
      generalize wc = w20 at *
      go_wp2_with fail
      have C := ptotal X b1 k1 X.length w20 HX.out rfl (by have := HKL.out; have := HLN.out; omega) (fits_total HFTX.out)
      rw [HTA.out.1] at C
      refine C.mono ?_
      clear C
      rintro e w21 ⟨rfl, hb⟩
      replace HW := Lib.hid (below_trans HW.out hb)
      replace HX := Lib.hid (SpansAt.below HX.out hb)
      replace HR := Lib.hid (SpansAt.below HR.out hb)
      replace HK := Lib.hid (SpansAt.below HK.out hb)
      replace HO := Lib.hid (SpansAt.below HO.out hb)
      clear hb
      go_wp2_with fail
      have C := ptotal X b1 k1 X.length w21 HX.out rfl (by have := HKL.out; have := HLN.out; omega) (fits_total HFTX.out)
      rw [HTA.out.1] at C
      refine C.mono ?_
      clear C
      rintro e w22 ⟨rfl, hb⟩
      replace HW := Lib.hid (below_trans HW.out hb)
      replace HX := Lib.hid (SpansAt.below HX.out hb)
      replace HR := Lib.hid (SpansAt.below HR.out hb)
      replace HK := Lib.hid (SpansAt.below HK.out hb)
      replace HO := Lib.hid (SpansAt.below HO.out hb)
      clear hb
      go_wp2_with fail
      have C := ptotal R b2 k2 R.length w22 HR.out rfl (by have := HKL.out; have := HLN.out; omega) (fits_total HFTR.out)
      rw [HTA.out.2] at C
      refine C.mono ?_
      clear C
      rintro e w23 ⟨rfl, hb⟩
      replace HW := Lib.hid (below_trans HW.out hb)
      replace HX := Lib.hid (SpansAt.below HX.out hb)
      replace HR := Lib.hid (SpansAt.below HR.out hb)
      replace HK := Lib.hid (SpansAt.below HK.out hb)
      replace HO := Lib.hid (SpansAt.below HO.out hb)
      clear hb
      have htk := HM.out
      have htb := HTB.out
      have htl := HKL.out
      generalize hTK : total K = TK at *
      have HTK := Lib.hid hTK
      clear hTK
      have hsum : (A : Int) + ((TK - A : Nat) : Int) = TK := by omega
      have hbig : (TK : Int) ≤ 100000000 := by omega
      go_wp2_with fail
      have C := ptotal K b0 k0 K.length w23 HK.out rfl (by have := HKL.out; omega) (fun s hs => by have := HFK.out s hs; omega)
      rw [HTK.out] at C
      refine C.mono ?_
      clear C
      rintro e w24 ⟨rfl, hb⟩
      replace HW := Lib.hid (below_trans HW.out hb)
      replace HX := Lib.hid (SpansAt.below HX.out hb)
      replace HR := Lib.hid (SpansAt.below HR.out hb)
      replace HK := Lib.hid (SpansAt.below HK.out hb)
      replace HO := Lib.hid (SpansAt.below HO.out hb)
      clear hb
      go_wp2_with fail
      have C := same_any (castS K) (castS K) b8 b0 k8 k0 K.length K.length w24 HO.out HK.out (castS_length _) (castS_length _) (by have := HKL.out; omega)
      rw [decide_eq_true rfl] at C
      refine C.mono ?_
      clear C
      rintro e w25 ⟨rfl, hb⟩
      replace HW := Lib.hid (below_trans HW.out hb)
      replace HX := Lib.hid (SpansAt.below HX.out hb)
      replace HR := Lib.hid (SpansAt.below HR.out hb)
      replace HK := Lib.hid (SpansAt.below HK.out hb)
      replace HO := Lib.hid (SpansAt.below HO.out hb)
      clear hb
      go_wp2_with fail
      refine (pright_good (castS X) X n b1 k1 X.length w25 HX.out (castS_length _) (by have := HKL.out; have := HLN.out; omega) HFTX.out).mono ?_
      rintro e w26 hr
      obtain ⟨rfl, hb⟩ := hr.yes HSA.out.1
      clear hr
      replace HW := Lib.hid (below_trans HW.out hb)
      replace HX := Lib.hid (SpansAt.below HX.out hb)
      replace HR := Lib.hid (SpansAt.below HR.out hb)
      replace HK := Lib.hid (SpansAt.below HK.out hb)
      replace HO := Lib.hid (SpansAt.below HO.out hb)
      clear hb
      go_wp2_with fail
      refine (pright_good (castS R) R n b2 k2 R.length w26 HR.out (castS_length _) (by have := HKL.out; have := HLN.out; omega) HFTR.out).mono ?_
      rintro e w27 hr
      obtain ⟨rfl, hb⟩ := hr.yes HSA.out.2.1
      clear hr
      replace HW := Lib.hid (below_trans HW.out hb)
      replace HX := Lib.hid (SpansAt.below HX.out hb)
      replace HR := Lib.hid (SpansAt.below HR.out hb)
      replace HK := Lib.hid (SpansAt.below HK.out hb)
      replace HO := Lib.hid (SpansAt.below HO.out hb)
      clear hb
      obtain ⟨p, hp⟩ : ∃ p, X.length = p := ⟨_, rfl⟩
      obtain ⟨r, hr⟩ : ∃ r, R.length = r := ⟨_, rfl⟩
      rw [hp, hr]
      have hp8 : p ≤ 8192 := by have := HKL.out; have := HLN.out; omega
      rcases Nat.eq_zero_or_pos p with hp0 | hp0
      · subst hp0
        clear hp hr
        go_wp2_with fail
        go_quiet (fail)
        have HBQ := Lib.hid (below_drewN HW.out nq)
        generalize w27.drewN nq = wq at *
        go_wp2
        go_ret
        exact ⟨rfl, HBQ.out⟩
      · have hpI : ((p : Int) == 0) = false := by simp; omega
        rcases Nat.eq_zero_or_pos r with hr0 | hr0
        · subst hr0
          clear hp hr hp0
          go_wp2_with fail
          go_quiet (fail)
          have HBQ := Lib.hid (below_drewN HW.out nq)
          generalize w27.drewN nq = wq at *
          go_wp2
          go_ret
          exact ⟨rfl, HBQ.out⟩
        · have hrI : ((r : Int) == 0) = false := by simp; omega
          obtain ⟨x, rfl, c0, c1⟩ := HX.out (p - 1) (by rw [castS_length]; omega)
          obtain ⟨y, rfl, d0, _⟩ := HR.out 0 (by rw [castS_length]; omega)
          rw [castS_getD] at c0 c1 d0
          have mX : X.getD (p - 1) (0, 0) ∈ X := getD_mem (by omega)
          have mR : R.getD 0 (0, 0) ∈ R := getD_mem (by omega)
          have hah := HAH.out _ _ mX mR
          have hfx := HFX1.out _ mX
          generalize X.getD (p - 1) (0, 0) = s at *
          generalize R.getD 0 (0, 0) = t at *
          obtain ⟨s1, s2⟩ := s
          obtain ⟨t1, t2⟩ := t
          dsimp only at c0 c1 d0 hah hfx
          have d0' : w27.cell? y = some (.int .i64 (t1 : Int)) := d0
          have i1 : (0 : Int) ≤ (p : Int) - 1 := by omega
          have i2 : (p : Int) - 1 < p := by omega
          have i3 : (0 : Int) < r := by omega
          have hle : (s1 : Int) + s2 ≤ t1 := by omega
          clear mX mR d0 hp hr hp0 hr0
          go_wp2_with fail
          go_quiet (fail)
          have HBQ := Lib.hid (below_drewN HW.out nq)
          generalize w27.drewN nq = wq at *
          go_wp2
          go_ret
          exact ⟨rfl, HBQ.out⟩

theorem walk (a0 : Option Addr) (len0 cap0 : Nat) (z0 : List SpI) (a1 : Int) (_ : (Lit.int .i64 a1).wf = true) (a2 : Int) (_ : (Lit.int .i64 a2).wf = true) (w : World) (h0 : IsSpans w a0 len0 z0) :
    Calls Try.prog 6 #[.slice a0 len0 cap0, .int .i64 a1, .int .i64 a2] w fun e w' => e = .returned (.bool true) ∧ Below w.heap.size w w' := by
  by_cases hl : len0 ≤ 40
  · rcases bad_or_fits z0 a1 with hb | ⟨N, n, hn, hf⟩
    · exact bad a0 len0 cap0 z0 a1 a2 w h0 hl hb
    · by_cases hp : N.Pairwise Apart
      · by_cases hm0 : a2 < 0
        · exact below a0 len0 cap0 z0 a1 a2 w h0 hl N n hn hf hp hm0
        · by_cases hm : ((total (rows (memB N) n) : Nat) : Int) < a2
          · exact over a0 len0 cap0 z0 a1 a2 w h0 hl N n hn hf hp hm0 hm
          · exact within a0 len0 cap0 z0 a1 a2 w h0 hl N n hn hf hp a2.toNat (by omega) (by omega)
      · exact lapped a0 len0 cap0 z0 a1 a2 w h0 hl N n hn hf hp
  · exact long a0 len0 cap0 a1 a2 w hl

set_option maxRecDepth 100000 in
theorem lifted (os : Os) (started : os.Started) (H : Type) (enc : TypeId × Value → H) :
    ReturnsInHanded {} Try.checked os 6 .any (Rows.spanPartsSpec.pre6 enc Try.prog Try.f6 Rows.spanPartsRow.domain false) (Rows.spanPartsSpec.post enc Try.prog Try.f6 false true false false) := by
  refine returnsInHanded_of_change (C := Try.checked) own started (by kernel_rfl) Try.func6
    (ChangeSpec.witness6 (enc := enc) (C := Try.checked) false ⟨#[], #[.slice none 0 0, .int .i64 0, .int .i64 0], []⟩ 8 (by kernel_rfl) (by kernel_rfl) (by kernel_rfl) (by kernel_rfl)) ?_
  intro W base args ds gs before hval0 hW _ _
  have hval : ∀ (j : Nat) t v, Try.f6.params[j]? = some t → args[j]? = some v → Value.okWide Try.prog W .any base t v := hval0
  have hW' := hW
  obtain ⟨p, q, hA0, hV, rfl, hfz, hnd⟩ := hW
  have hA : DataW.TrodAll enc Try.prog W 0 (fun _ => true) true Try.f6.params.toList args.toList ds p := hA0
  rw [Try.params6] at hA hval
  obtain ⟨v0, vs0, d0, ds0, p0, q0, hargs, rfl, rfl, h0, r0⟩ := trodAll_cons hA
  obtain ⟨v1, vs1, d1, ds1, p1, q1, rfl, rfl, rfl, h1, r1⟩ := trodAll_cons r0
  obtain ⟨v2, vs2, d2, ds2, p2, q2, rfl, rfl, rfl, h2, r2⟩ := trodAll_cons r1
  obtain ⟨rfl, rfl, rfl⟩ := trodAll_nil r2
  obtain rfl : args = #[v0, v1, v2] := by cases args; simp_all
  obtain ⟨rfl, rfl⟩ := trodVars_none hV
  obtain ⟨a0, len0, cap0, rfl⟩ := okWide_slice Try.underlying22 (hval 0 22 v0 rfl rfl)
  have k0 := h0
  have lt0 : ∀ x ∈ p0, x.block < W.heap.size := by obtain ⟨m, hm⟩ := k0; exact DataW.trod_lt m _ _ _ hm
  obtain ⟨z0, w0⟩ : ∃ zs, IsSpans W a0 len0 zs := by
    obtain ⟨fuel, hf⟩ := h0
    exact open_spans hf
  obtain ⟨a1, rfl, rfl, rfl, w1⟩ := open_int Try.underlying3 (hval 1 3 v1 rfl rfl) h1
  obtain ⟨a2, rfl, rfl, rfl, w2⟩ := open_int Try.underlying3 (hval 2 3 v2 rfl rfl) h2
  clear hA0 hval0
  refine (walk a0 len0 cap0 z0 a1 w1 a2 w2 W w0).mono fun e W' ⟨he, bel⟩ => ?_
  subst he
  exact ⟨_, rfl, _, _, _, [], _, [], hW', trodAll_mk1 (shut_bool Try.underlying4 _), (trodAll_cons_mk (Below.trod laidOut (by kernel_rfl) (of_decide_eq_true (by kernel_rfl)) k0 bel lt0) (trodAll_cons_mk (shut_int Try.underlying3 w1) (trodAll_cons_mk (shut_int Try.underlying3 w2) trodAll_mk0))), rfl, bel.frame _, fun h => by cases h⟩

theorem holds : Rows.SpanPartsSaid :=
  OpenClaim.holds_of_wide 6 Try.f6 rfl rfl rfl rfl rfl rfl rfl ⟨rfl, rfl, rfl, rfl, rfl⟩ rfl rfl rfl rfl rfl (by kernel_rfl) Try.func6 (by kernel_rfl)
    (of_decide_eq_true (by kernel_rfl)) (by unfold Func.isWrapper; first | (rw [if_pos (by decide +kernel)]; kernel_rfl) | (rw [if_neg (by decide +kernel)]; exact ⟨rfl, rfl⟩))
    (fun os started H enc _ => lifted os started H enc)

end Go.Proofs.Ytcknpmlekpgafaa.spanParts
