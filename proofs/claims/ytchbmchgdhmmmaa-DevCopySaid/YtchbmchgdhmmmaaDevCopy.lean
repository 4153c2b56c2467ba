/-
  DevCopy: for every input the law answers true: a copy has the same sectors, and goes its own way. Conditions: none.
-/
import Derived.Test.YtchbmchgdhmmmaaDvShown
import Derived.Test.YtchbmchgdhmmmaaDvSmall
import Derived.Test.YtchbmchgdhmmmaaDvMath
import Derived.Test.YtchbmchgdhmmmaaTail
import Derived.Test.YtchbmchgdhmmmaaDvAlike
namespace Go.Proofs.Ytchbmchgdhmmmaa.devCopy
open Go.ChangeShapes Go.WideShapes Go.ChangeAt Go.RowKit Go.Rc4
open Go.ChangeMaps (open_string shut_string)

theorem act_ok {w : World} {a : Option Addr} {len : Nat} {F : Nat → AR} (h : IsActs w a len F) (k : Nat) (hk : k < len) : ActOk w (F k) := by
  obtain ⟨x, _, c⟩ := h k hk
  refine ⟨c.i0, c.i1, c.i2, c.len, fun j hj => ?_⟩
  obtain ⟨y, hy, hc⟩ := c.keep j hj
  refine ⟨y, hy, ?_, hc⟩
  have := row_block hc
  have e : (y.add j).block = y.block := by unfold Addr.add; split <;> rfl
  omega

set_option maxRecDepth 100000 in
set_option maxHeartbeats 8000000 in
theorem go (a0 : Option Addr) (len0 cap0 : Nat) (z0 : Nat → AR) (a1 : Option Addr) (len1 cap1 : Nat) (z1 : Nat → AR) (w : World) (h0 : IsActs w a0 len0 z0) (h1 : IsActs w a1 len1 z1) (hs0 : small len0 z0 = true) (hs1 : small len1 z1 = true) :
    Calls Try.prog 3 #[.slice a0 len0 cap0, .slice a1 len1 cap1] w fun e w' => e = .returned (.bool true) ∧ Below w.heap.size w w' := by
  have HA := Lib.hid (fun W (hb : Below w.heap.size w W) => IsActs.below h0 hb)
  have HB := Lib.hid (fun W (hb : Below w.heap.size w W) => IsActs.below h1 hb)
  have HK0 := Lib.hid (act_ok h0)
  have HK1 := Lib.hid (act_ok h1)
  have HSH := Lib.hid (shown_any w)
  have hlen0 := small_len hs0
  have hlen1 := small_len hs1
  have HS0 := Lib.hid hs0
  have HS1 := Lib.hid hs1
  clear h0 h1 hs0 hs1
  go_enter Try.func3, Try.ntmps3
  go_wp2_with fail
  refine HSH.out.mono ?_
  rintro e wA ⟨rfl, hbA⟩
  have HF := Lib.hid ((Crew.start w).below hbA)
  clear hbA
  go_wp2_with fail
  have C := small_any a0 len0 cap0 z0 wA (HA.out _ HF.out.bel)
  rw [HS0.out] at C
  refine C.mono ?_
  clear C
  rintro e wB ⟨rfl, rfl⟩
  go_wp2_with fail
  have C := small_any a1 len1 cap1 z1 wA (HB.out _ HF.out.bel)
  rw [HS1.out] at C
  refine C.mono ?_
  clear C
  rintro e wB ⟨rfl, rfl⟩
  go_wp2_with fail
  refine (crew_new HF.out 6 (by omega) (by omega)).mono ?_
  rintro e wB ⟨b, rfl, hF⟩
  replace HF := Lib.hid hF
  clear hF
  go_wp2_with fail
  refine (rcrew_new HF.out 6 (by omega) (by omega)).mono ?_
  rintro e wB ⟨c, rfl, hF⟩
  replace HF := Lib.hid hF
  clear hF
  go_wp2
  go_loopw [12] (fun i wr => ∃ (k : Nat) (d m : DS), i = .int .i64 k ∧ k ≤ len0 ∧ d.p.length ≤ k ∧ m.p.length ≤ k ∧ Same d m ∧ Crew (fun _ => False) w [devT 0 b d, refT c m] wr) (fun i _ => (len0 - intOf i).toNat)
  case atStart => exact ⟨0, _, _, rfl, Nat.zero_le _, by simp [DS.new], by simp [DS.new], Same.refl _, HF.out⟩
  case round =>
    obtain ⟨k, d, m, rfl, hk, hdp, hmp, hsame, hF⟩ := hrel
    have HF3 := Lib.hid hF
    have HSM := Lib.hid hsame
    clear hF hsame
    by_cases hlt : k < len0
    · have hltI : (k : Int) < len0 := by omega
      obtain ⟨x, rfl, cc⟩ := HA.out wr HF3.out.bel k hlt
      have c0 := cc.c0
      have c1 := cc.c1
      have c2 := cc.c2
      have c3 := cc.c3
      have HDO := Lib.hid (does_any HF3.out 0 1 (by decide) rfl rfl (by omega) (by omega) (z0 k) (HK0.out k hlt))
      unfold actV at HDO
      have HPL := Lib.hid (And.intro (act_plen (z0 k) d) (actR_plen (z0 k) m))
      have HSM2 := Lib.hid (HSM.out.acts (z0 k))
      clear cc
      go_wp2_with fail
      refine HDO.out.mono ?_
      rintro e w5 ⟨⟨f, rfl⟩, hF⟩
      have HF5 := Lib.hid hF
      clear hF HDO
      go_wp2
      exact ⟨⟨k + 1, _, _, by go_num, by omega, by have := HPL.out.1; omega, by have := HPL.out.2; omega, HSM2.out, HF5.out⟩, by simp [intOf]; omega⟩
    · have hltI : ¬ (k : Int) < len0 := by omega
      go_wp2_with fail
      refine (crew_clone HF3.out 0 rfl).mono ?_
      rintro e w2 ⟨cl, rfl, hF⟩
      have HF4 := Lib.hid hF
      clear hF
      go_wp2_with fail
      refine (rcrew_new HF4.out 6 (by omega) (by omega)).mono ?_
      rintro e w3 ⟨sp, rfl, hF⟩
      replace HF4 := Lib.hid hF
      clear hF
      go_wp2
      go_loopw [16] (fun i wr => ∃ (q : Nat) (d2 m2 : DS), i = .int .i64 q ∧ q ≤ len1 ∧ d2.p.length ≤ k + q ∧ m2.p.length ≤ q ∧ Crew (fun _ => False) w [devT 0 b d, refT c m, devT 0 cl d2, refT sp m2] wr) (fun i _ => (len1 - intOf i).toNat)
      case atStart => exact ⟨0, _, _, rfl, Nat.zero_le _, hdp, by simp [DS.new], HF4.out⟩
      case round =>
        obtain ⟨q, d2, m2, rfl, hq, hdp2, hmp2, hF⟩ := hrel
        have HF6 := Lib.hid hF
        clear hF
        by_cases hlt1 : q < len1
        · have hltI1 : (q : Int) < len1 := by omega
          obtain ⟨x, rfl, cc⟩ := HB.out wr HF6.out.bel q hlt1
          have c0 := cc.c0
          have c1 := cc.c1
          have c2 := cc.c2
          have c3 := cc.c3
          have HDO := Lib.hid (does_any HF6.out 2 3 (by decide) rfl rfl (by omega) (by omega) (z1 q) (HK1.out q hlt1))
          unfold actV at HDO
          have HPL := Lib.hid (And.intro (act_plen (z1 q) d2) (actR_plen (z1 q) m2))
          clear cc
          go_wp2_with fail
          refine HDO.out.mono ?_
          rintro e w5 ⟨⟨f, rfl⟩, hF⟩
          have HF7 := Lib.hid hF
          clear hF HDO
          go_wp2
          exact ⟨⟨q + 1, _, _, by go_num, by omega, by have := HPL.out.1; omega, by have := HPL.out.2; omega, HF7.out⟩, by simp [intOf]; omega⟩
        · have hltI1 : ¬ (q : Int) < len1 := by omega
          have HAL := Lib.hid (alike_any HF6.out 0 1 rfl rfl HSM.out)
          go_wp2_with fail
          refine HAL.out.mono ?_
          rintro e w5 ⟨rfl, hb⟩
          have HBE := Lib.hid (HF6.out.bel.trans (hb.mono HF6.out.bel.size))
          clear hb
          go_wp2
          go_ret
          exact ⟨rfl, HBE.out⟩

set_option maxRecDepth 100000 in
set_option maxHeartbeats 4000000 in
theorem walk (a0 : Option Addr) (len0 cap0 : Nat) (z0 : Nat → AR) (a1 : Option Addr) (len1 cap1 : Nat) (z1 : Nat → AR) (w : World) (h0 : IsActs w a0 len0 z0) (h1 : IsActs w a1 len1 z1) :
    Calls Try.prog 3 #[.slice a0 len0 cap0, .slice a1 len1 cap1] w fun e w' => e = .returned (.bool true) ∧ Below w.heap.size w w' := by
  by_cases hs0 : small len0 z0 = true
  · by_cases hs1 : small len1 z1 = true
    · exact go a0 len0 cap0 z0 a1 len1 cap1 z1 w h0 h1 hs0 hs1
    · have hs1' : small len1 z1 = false := by simpa using hs1
      have HSH := Lib.hid (shown_any w)
      have HSM := Lib.hid (fun W (hb : Below w.heap.size w W) => small_any a0 len0 cap0 z0 W (IsActs.below h0 hb))
      have HSN := Lib.hid (fun W (hb : Below w.heap.size w W) => small_any a1 len1 cap1 z1 W (IsActs.below h1 hb))
      rw [hs0] at HSM
      rw [hs1'] at HSN
      clear h0 h1
      go_enter Try.func3, Try.ntmps3
      go_wp2_with (first | (go_at_call 8; (with_reducible refine HSH.out.mono ?_); rintro e w1 ⟨rfl, hb1⟩) | (go_at_call 9; (with_reducible refine (HSM.out _ hb1).mono ?_); rintro e w2 ⟨rfl, rfl⟩) | (go_at_call 9; (with_reducible refine (HSN.out _ hb1).mono ?_); rintro e w2 ⟨rfl, rfl⟩))
      go_ret
      exact ⟨rfl, hb1⟩
  · have hs0' : small len0 z0 = false := by simpa using hs0
    have HSH := Lib.hid (shown_any w)
    have HSM := Lib.hid (fun W (hb : Below w.heap.size w W) => small_any a0 len0 cap0 z0 W (IsActs.below h0 hb))
    have HSN := Lib.hid (fun W (hb : Below w.heap.size w W) => small_any a1 len1 cap1 z1 W (IsActs.below h1 hb))
    rw [hs0'] at HSM
    clear h0 h1
    generalize small len1 z1 = s1 at HSN
    go_enter Try.func3, Try.ntmps3
    go_wp2_with (first | (go_at_call 8; (with_reducible refine HSH.out.mono ?_); rintro e w1 ⟨rfl, hb1⟩) | (go_at_call 9; (with_reducible refine (HSM.out _ hb1).mono ?_); rintro e w2 ⟨rfl, rfl⟩) | (go_at_call 9; (with_reducible refine (HSN.out _ hb1).mono ?_); rintro e w2 ⟨rfl, rfl⟩))
    go_ret
    exact ⟨rfl, hb1⟩

set_option maxRecDepth 100000 in
theorem lifted (os : Os) (started : os.Started) (H : Type) (enc : TypeId × Value → H) :
    ReturnsInHanded {} Try.checked os 3 .any (Rows.devCopySpec.pre6 enc Try.prog Try.f3 Rows.devCopyRow.domain false) (Rows.devCopySpec.post enc Try.prog Try.f3 false true false false) := by
  refine returnsInHanded_of_change (C := Try.checked) own started (by kernel_rfl) Try.func3
    (ChangeSpec.witness6 (enc := enc) (C := Try.checked) false ⟨#[], #[.slice none 0 0, .slice none 0 0], []⟩ 8 (by kernel_rfl) (by kernel_rfl) (by kernel_rfl) (by kernel_rfl)) ?_
  intro W base args ds gs before hval0 hW _ _
  have hval : ∀ (j : Nat) t v, Try.f3.params[j]? = some t → args[j]? = some v → Value.okWide Try.prog W .any base t v := hval0
  have hW' := hW
  obtain ⟨p, q, hA0, hV, rfl, hfz, hnd⟩ := hW
  have hA : DataW.TrodAll enc Try.prog W 0 (fun _ => true) true Try.f3.params.toList args.toList ds p := hA0
  rw [Try.params3] at hA hval
  obtain ⟨v0, vs0, d0, ds0, p0, q0, hargs, rfl, rfl, h0, r0⟩ := trodAll_cons hA
  obtain ⟨v1, vs1, d1, ds1, p1, q1, rfl, rfl, rfl, h1, r1⟩ := trodAll_cons r0
  obtain ⟨rfl, rfl, rfl⟩ := trodAll_nil r1
  obtain rfl : args = #[v0, v1] := by cases args; simp_all
  obtain ⟨rfl, rfl⟩ := trodVars_none hV
  obtain ⟨a0, len0, cap0, rfl⟩ := okWide_slice Try.underlying22 (hval 0 22 v0 rfl rfl)
  have k0 := h0
  have lt0 : ∀ x ∈ p0, x.block < W.heap.size := by obtain ⟨m, hm⟩ := k0; exact DataW.trod_lt m _ _ _ hm
  obtain ⟨z0, w0⟩ : ∃ zs, IsActs W a0 len0 zs := by
    obtain ⟨fuel, hf⟩ := h0
    exact open_acts hf
  obtain ⟨a1, len1, cap1, rfl⟩ := okWide_slice Try.underlying22 (hval 1 22 v1 rfl rfl)
  have k1 := h1
  have lt1 : ∀ x ∈ p1, x.block < W.heap.size := by obtain ⟨m, hm⟩ := k1; exact DataW.trod_lt m _ _ _ hm
  obtain ⟨z1, w1⟩ : ∃ zs, IsActs W a1 len1 zs := by
    obtain ⟨fuel, hf⟩ := h1
    exact open_acts hf
  clear hA0 hval0
  refine (walk a0 len0 cap0 z0 a1 len1 cap1 z1 W w0 w1).mono fun e W' ⟨he, bel⟩ => ?_
  subst he
  exact ⟨_, rfl, _, _, _, [], _, [], hW', trodAll_mk1 (shut_bool Try.underlying4 _), (trodAll_cons_mk (Below.trod laidOut (by kernel_rfl) (of_decide_eq_true (by kernel_rfl)) k0 bel lt0) (trodAll_cons_mk (Below.trod laidOut (by kernel_rfl) (of_decide_eq_true (by kernel_rfl)) k1 bel lt1) trodAll_mk0)), rfl, bel.frame _, fun h => by cases h⟩

theorem holds : Rows.DevCopySaid :=
  OpenClaim.holds_of_wide 3 Try.f3 rfl rfl rfl rfl rfl rfl rfl ⟨rfl, rfl, rfl, rfl, rfl⟩ rfl rfl rfl rfl rfl (by kernel_rfl) Try.func3 (by kernel_rfl)
    (of_decide_eq_true (by kernel_rfl)) (by unfold Func.isWrapper; first | (rw [if_pos (by decide +kernel)]; kernel_rfl) | (rw [if_neg (by decide +kernel)]; exact ⟨rfl, rfl⟩))
    (fun os started H enc _ => lifted os started H enc)

end Go.Proofs.Ytchbmchgdhmmmaa.devCopy
