/-
  DevArmed: for every input the law answers true: an armed device does just so many writes and flushes, then nothing. Conditions: none.
-/
import Derived.Test.YtchbmchgdhmmmaaDvShown
import Derived.Test.YtchbmchgdhmmmaaDvSmall
import Derived.Test.YtchbmchgdhmmmaaDvMath
import Derived.Test.YtchbmchgdhmmmaaTail
namespace Go.Rc4

/-- A device of four sectors that was armed with n, behind done writes and flushes. -/
structure Armed (n done k : Nat) (d : DS) : Prop where
  len : d.s.length = 4
  dn : d.down = decide (n < done)
  lf : done ≤ n → d.left = (n : Int) - done
  pn : d.p.length ≤ k

theorem Armed.tick {n done k : Nat} {d : DS} (h : Armed n done k d) (h1 : done + 1 ≤ n) : d.tick = (n : Int) - (done + 1 : Nat) := by
  have := h.lf (by omega)
  unfold DS.tick
  rw [if_pos (by omega)]
  omega

theorem Armed.off {n done k : Nat} {d : DS} (h : Armed n done k d) (hd : n < done) : d.down = true := by
  rw [h.dn]
  exact decide_eq_true hd

theorem Armed.on {n done k : Nat} {d : DS} (h : Armed n done k d) (hd : ¬ n < done) : d.down = false := by
  rw [h.dn]
  exact decide_eq_false hd

theorem Armed.fl {n done k : Nat} {d : DS} (h : Armed n done k d) : d.fl.1 = (if done + 1 ≤ n then 0 else 8) ∧ Armed n (done + 1) k d.fl.2 := by
  by_cases hd : n < done
  · rw [fl_off (h.off hd), if_neg (by omega)]
    exact ⟨rfl, h.len, (h.off hd).trans (decide_eq_true (by omega)).symm, fun hh => by omega, h.pn⟩
  · have hl := h.lf (by omega)
    by_cases h0 : d.left = 0
    · rw [fl_dead (h.on hd) h0, if_neg (by omega)]
      exact ⟨rfl, h.len, (decide_eq_true (by omega)).symm, fun hh => by omega, h.pn⟩
    · rw [fl_on (h.on hd) h0, if_pos (by omega)]
      exact ⟨rfl, h.len, (h.on hd).trans (decide_eq_false (by omega)).symm, fun _ => h.tick (by omega), by simp⟩

theorem Armed.wr {n done k : Nat} {d : DS} (h : Armed n done k d) (i : Nat) (hi : i < 4) (t : ByteArray) (ht : t.size = 64) : (d.wr i t).1 = (if done + 1 ≤ n then 0 else 8) ∧ Armed n (done + 1) (k + 1) (d.wr i t).2 := by
  have hlen := h.len
  have hp := h.pn
  by_cases hd : n < done
  · rw [wr_off (h.off hd), if_neg (by omega)]
    exact ⟨rfl, h.len, (h.off hd).trans (decide_eq_true (by omega)).symm, fun hh => by omega, Nat.le_succ_of_le h.pn⟩
  · have hl := h.lf (by omega)
    by_cases h0 : d.left = 0
    · rw [wr_dead (h.on hd) (by omega) ht h0, if_neg (by omega)]
      exact ⟨rfl, h.len, (decide_eq_true (by omega)).symm, fun hh => by omega, Nat.le_succ_of_le h.pn⟩
    · rw [wr_on (h.on hd) (by omega) ht h0, if_pos (by omega)]
      exact ⟨rfl, by simp [h.len], (h.on hd).trans (decide_eq_false (by omega)).symm, fun _ => h.tick (by omega), by simp; omega⟩

theorem Armed.rd {n done k : Nat} {d : DS} (h : Armed n done k d) : (d.rd 0).2 = (if n < done then 8 else 0) := by
  have hlen := h.len
  by_cases hd : n < done
  · rw [rd_off (h.off hd), if_pos hd]
  · have := rd_ok (h.on hd) (i := 0) (by omega)
    rw [show d.rd 0 = d.rd ((0 : Nat) : Int) from rfl, this, if_neg hd]

theorem Armed.new (n : Nat) : Armed n 0 0 { DS.new 4 with left := (n : Int) } := ⟨by simp [DS.new], by simp [DS.new], fun _ => by simp, by simp [DS.new]⟩

end Go.Rc4
namespace Go.Proofs.Ytchbmchgdhmmmaa.devArmed
open Go.ChangeShapes Go.WideShapes Go.ChangeAt Go.RowKit Go.Rc4
open Go.ChangeMaps (open_string shut_string)

set_option maxHeartbeats 4000000 in
theorem walk (a0 : Int) (w0 : (Lit.int .i64 a0).wf = true) (a1 : Option Addr) (len1 cap1 : Nat) (z1 : Nat → AR) (w : World) (h1 : IsActs w a1 len1 z1) :
    Calls Try.prog 5 #[.int .i64 a0, .slice a1 len1 cap1] w fun e w' => e = .returned (.bool true) ∧ Below w.heap.size w w' := by
  have HA := Lib.hid (fun W (hb : Below w.heap.size w W) => IsActs.below h1 hb)
  have HSH := Lib.hid (shown_any w)
  have HP := Lib.hid (pick_lit a0 (in64_of w0) 70 70 rfl (by omega) (by omega))
  have hn70 := pk_lt a0 70 (by omega)
  generalize pk a0 70 = n at *
  clear h1 w0
  by_cases hsm : small len1 z1 = true
  · have hlen := small_len hsm
    go_enter Try.func5, Try.ntmps5
    go_wp2_with fail
    refine HSH.out.mono ?_
    rintro e wA ⟨rfl, hbA⟩
    have HF := Lib.hid ((Fleet.start w).below hbA)
    have HI := Lib.hid (HA.out _ hbA)
    clear hbA
    go_wp2_with fail
    have C := small_any a1 len1 cap1 z1 wA HI.out
    rw [hsm] at C
    refine C.mono ?_
    clear C
    rintro e wB ⟨rfl, rfl⟩
    go_wp2_with fail
    refine (fleet_new HF.out 4 (by omega) (by omega)).mono ?_
    rintro e wB ⟨b, rfl, hF⟩
    replace HF := Lib.hid hF
    clear hF
    go_wp2_with fail
    refine (HP.out _).mono ?_
    rintro e wC ⟨rfl, rfl⟩
    go_wp2_with fail
    refine (fleet_arm HF.out 0 rfl n (by omega)).mono ?_
    rintro e wC ⟨rfl, hF⟩
    replace HF := Lib.hid hF
    clear hF
    go_wp2
    go_loopw [9, 10, 11] (fun x i _ wr => ∃ (k done : Nat) (d : DS), i = .int .i64 k ∧ x = .int .i64 done ∧ k ≤ len1 ∧ done ≤ 2 * k ∧ Armed n done k d ∧ Fleet w.heap.size w [devT w.heap.size b d] wr) (fun _ i _ _ => (len1 - intOf i).toNat)
    case atStart => exact ⟨0, 0, _, rfl, rfl, Nat.zero_le _, Nat.zero_le _, Armed.new n, HF.out⟩
    case round =>
      obtain ⟨k, done, d, rfl, rfl, hk, hdn, hAr, hF⟩ := hrel
      have HF2 := Lib.hid hF
      have HAr := Lib.hid hAr
      clear hF hAr
      by_cases hlt : k < len1
      · have hltI : (k : Int) < len1 := by omega
        obtain ⟨hv1, hAr1⟩ := HAr.out.fl
        have CF := fleet_flush HF2.out 0 rfl
        rw [hv1] at CF
        have HCF := Lib.hid CF
        have HA1 := Lib.hid hAr1
        clear CF hv1 hAr1
        go_wp2_with fail
        refine HCF.out.mono ?_
        clear HCF
        rintro e w2 ⟨rfl, hF⟩
        have HF3 := Lib.hid hF
        clear hF
        generalize d.fl.2 = d1 at HF3 HA1
        obtain ⟨x, rfl, c⟩ := HA.out w2 HF3.out.bel k hlt
        have c0 := c.c0
        have c1 := c.c1
        have c2 := c.c2
        have HPO := Lib.hid (pick_lit (z1 k).op c.i0 10 10 rfl (by omega) (by omega))
        have HPA := Lib.hid (pick_lit (z1 k).at_ c.i1 4 4 rfl (by omega) (by omega))
        have HSE := Lib.hid (sector_any (z1 k).n)
        have hi4 := pk_lt (z1 k).at_ 4 (by omega)
        have ht := sec_size (z1 k).n
        clear c
        generalize (z1 k).op = r0 at c0 HPO
        generalize (z1 k).at_ = r1 at c1 HPA hi4
        generalize (z1 k).n = r2 at c2 HSE ht
        generalize pk r0 10 = po at HPO
        generalize pk r1 4 = at4 at HPA hi4
        generalize sec r2 = t at HSE ht
        by_cases hpo : po = 6
        · have hpoI : ((po : Int) != 6) = false := by simp; omega
          have HA1' := Lib.hid (show Armed n (done + 1) (k + 1) d1 from ⟨HA1.out.len, HA1.out.dn, HA1.out.lf, Nat.le_succ_of_le HA1.out.pn⟩)
          by_cases hle : done + 1 ≤ n
          · rw [if_pos hle]
            have C := fleet_down HF3.out 0 rfl
            rw [HA1.out.on (by omega)] at C
            have HD := Lib.hid C
            clear C
            go_wp2_with (first | (go_at_call 16; (with_reducible refine (HPO.out _).mono ?_); rintro e w3 ⟨rfl, rfl⟩) | (go_at_call 22; (with_reducible refine HD.out.mono ?_); rintro e w3 ⟨rfl, rfl⟩))
            exact ⟨⟨k + 1, done + 1, _, by go_num, by go_num, by omega, by omega, HA1'.out, HF3.out⟩, by simp [intOf]; omega⟩
          · rw [if_neg hle]
            have C := fleet_down HF3.out 0 rfl
            rw [HA1.out.off (by omega)] at C
            have HD := Lib.hid C
            clear C
            go_wp2_with (first | (go_at_call 16; (with_reducible refine (HPO.out _).mono ?_); rintro e w3 ⟨rfl, rfl⟩) | (go_at_call 22; (with_reducible refine HD.out.mono ?_); rintro e w3 ⟨rfl, rfl⟩))
            exact ⟨⟨k + 1, done + 1, _, by go_num, by go_num, by omega, by omega, HA1'.out, HF3.out⟩, by simp [intOf]; omega⟩
        · have hpoI : ((po : Int) != 6) = true := by simp; omega
          generalize (if done + 1 ≤ n then (0 : Int) else 8) = ev
          obtain ⟨hv2, hAr2⟩ := HA1.out.wr at4 hi4 t ht
          have HA2 := Lib.hid hAr2
          have HCW := Lib.hid (fun W (hF : Fleet w.heap.size w ([devT w.heap.size b d].set 0 (devT w.heap.size b d1)) W) => fleet_write hF 0 rfl (by have := HA1.out.pn; omega) at4 t)
          rw [hv2] at HCW
          clear hAr2 hv2
          have l1 := row_block c1
          have l2 := row_block c2
          have q1 := after_cell c1 l1
          have q2 := after_cell c2 l2
          go_wp2_with (first | (go_at_call 16; (with_reducible refine (HPO.out _).mono ?_); rintro e w3 ⟨rfl, rfl⟩))
          refine wp_region_then 13 (by kernel_rfl) (by kernel_rfl) ?_
          simp only [List.take_succ_cons, List.take_zero, List.drop_succ_cons, List.drop_zero]
          repeat (go_big_quiet_step (first | with_reducible exact after_same HPA.out _ | with_reducible exact after_call HSE.out _))
          refine wpQuiet_nil ?_
          intro _ hw'
          obtain ⟨p, rfl⟩ := hw'
          have hF := HF3.out.below p.is
          generalize p.to = w4 at hF ⊢
          have HCW4 := Lib.hid (HCW.out w4 hF)
          clear hF HCW
          by_cases hle : done + 2 ≤ n
          · have HD := Lib.hid (fun W (hF : Fleet w.heap.size w (([devT w.heap.size b d].set 0 (devT w.heap.size b d1)).set 0 (devT w.heap.size b (d1.wr at4 t).2)) W) => fleet_down hF 0 rfl)
            rw [HA2.out.on (by omega)] at HD
            rw [if_pos (by omega)] at HCW4
            go_wp2_with (first | (go_at_call 15; (with_reducible refine HCW4.out.mono ?_); rintro e w5 ⟨rfl, hF5⟩; have HF5 := Lib.hid hF5; clear hF5) | (go_at_call 22; (with_reducible refine (HD.out _ HF5.out).mono ?_); rintro e w3 ⟨rfl, rfl⟩))
            exact ⟨⟨k + 1, done + 2, _, by go_num, by go_num, by omega, by omega, HA2.out, HF5.out⟩, by simp [intOf]; omega⟩
          · have HD := Lib.hid (fun W (hF : Fleet w.heap.size w (([devT w.heap.size b d].set 0 (devT w.heap.size b d1)).set 0 (devT w.heap.size b (d1.wr at4 t).2)) W) => fleet_down hF 0 rfl)
            rw [HA2.out.off (by omega)] at HD
            rw [if_neg (by omega)] at HCW4
            go_wp2_with (first | (go_at_call 15; (with_reducible refine HCW4.out.mono ?_); rintro e w5 ⟨rfl, hF5⟩; have HF5 := Lib.hid hF5; clear hF5) | (go_at_call 22; (with_reducible refine (HD.out _ HF5.out).mono ?_); rintro e w3 ⟨rfl, rfl⟩))
            exact ⟨⟨k + 1, done + 2, _, by go_num, by go_num, by omega, by omega, HA2.out, HF5.out⟩, by simp [intOf]; omega⟩
      · have hltI : ¬ (k : Int) < len1 := by omega
        obtain rfl : k = len1 := by omega
        have C := fleet_read HF2.out 0 rfl 0
        rw [HAr.out.rd] at C
        have HR := Lib.hid C
        have HPE := Lib.hid (fleet_pending HF2.out 0 rfl)
        have hpn := HAr.out.pn
        have hpnI : ((d.p.length : Nat) : Int) ≤ k := by omega
        clear C hpn
        by_cases hle : n < done
        · rw [if_pos hle] at HR
          have hleI : (n : Int) < done := by omega
          go_wp2_with (first | (go_at_call 20; (with_reducible refine HR.out.mono ?_); rintro e w3 ⟨rfl, rfl⟩) | (go_at_call 21; (with_reducible refine HPE.out.mono ?_); rintro e w3 ⟨rfl, rfl⟩))
          go_ret
          exact ⟨rfl, HF2.out.bel⟩
        · rw [if_neg hle] at HR
          have hleI : ¬ (n : Int) < done := by omega
          go_wp2_with (first | (go_at_call 20; (with_reducible refine HR.out.mono ?_); rintro e w3 ⟨rfl, rfl⟩) | (go_at_call 21; (with_reducible refine HPE.out.mono ?_); rintro e w3 ⟨rfl, rfl⟩))
          go_ret
          exact ⟨rfl, HF2.out.bel⟩
  · have hsm' : small len1 z1 = false := by simpa using hsm
    have HSM := Lib.hid (fun W (hb : Below w.heap.size w W) => small_any a1 len1 cap1 z1 W (HA.out W hb))
    rw [hsm'] at HSM
    go_enter Try.func5, Try.ntmps5
    go_wp2_with (first | (go_at_call 8; (with_reducible refine HSH.out.mono ?_); rintro e w1 ⟨rfl, hb1⟩) | (go_at_call 9; (with_reducible refine (HSM.out _ hb1).mono ?_); rintro e w2 ⟨rfl, rfl⟩))
    go_ret
    exact ⟨rfl, hb1⟩

set_option maxRecDepth 100000 in
theorem lifted (os : Os) (started : os.Started) (H : Type) (enc : TypeId × Value → H) :
    ReturnsInHanded {} Try.checked os 5 .any (Rows.devArmedSpec.pre6 enc Try.prog Try.f5 Rows.devArmedRow.domain false) (Rows.devArmedSpec.post enc Try.prog Try.f5 false true false false) := by
  refine returnsInHanded_of_change (C := Try.checked) own started (by kernel_rfl) Try.func5
    (ChangeSpec.witness6 (enc := enc) (C := Try.checked) false ⟨#[], #[.int .i64 0, .slice none 0 0], []⟩ 8 (by kernel_rfl) (by kernel_rfl) (by kernel_rfl) (by kernel_rfl)) ?_
  intro W base args ds gs before hval0 hW _ _
  have hval : ∀ (j : Nat) t v, Try.f5.params[j]? = some t → args[j]? = some v → Value.okWide Try.prog W .any base t v := hval0
  have hW' := hW
  obtain ⟨p, q, hA0, hV, rfl, hfz, hnd⟩ := hW
  have hA : DataW.TrodAll enc Try.prog W 0 (fun _ => true) true Try.f5.params.toList args.toList ds p := hA0
  rw [Try.params5] at hA hval
  obtain ⟨v0, vs0, d0, ds0, p0, q0, hargs, rfl, rfl, h0, r0⟩ := trodAll_cons hA
  obtain ⟨v1, vs1, d1, ds1, p1, q1, rfl, rfl, rfl, h1, r1⟩ := trodAll_cons r0
  obtain ⟨rfl, rfl, rfl⟩ := trodAll_nil r1
  obtain rfl : args = #[v0, v1] := by cases args; simp_all
  obtain ⟨rfl, rfl⟩ := trodVars_none hV
  obtain ⟨a0, rfl, rfl, rfl, w0⟩ := open_int Try.underlying3 (hval 0 3 v0 rfl rfl) h0
  obtain ⟨a1, len1, cap1, rfl⟩ := okWide_slice Try.underlying22 (hval 1 22 v1 rfl rfl)
  have k1 := h1
  have lt1 : ∀ x ∈ p1, x.block < W.heap.size := by obtain ⟨m, hm⟩ := k1; exact DataW.trod_lt m _ _ _ hm
  obtain ⟨z1, w1⟩ : ∃ zs, IsActs W a1 len1 zs := by
    obtain ⟨fuel, hf⟩ := h1
    exact open_acts hf
  clear hA0 hval0
  refine (walk a0 w0 a1 len1 cap1 z1 W w1).mono fun e W' ⟨he, bel⟩ => ?_
  subst he
  exact ⟨_, rfl, _, _, _, [], _, [], hW', trodAll_mk1 (shut_bool Try.underlying4 _), (trodAll_cons_mk (shut_int Try.underlying3 w0) (trodAll_cons_mk (Below.trod laidOut (by kernel_rfl) (of_decide_eq_true (by kernel_rfl)) k1 bel lt1) trodAll_mk0)), rfl, bel.frame _, fun h => by cases h⟩

theorem holds : Rows.DevArmedSaid :=
  OpenClaim.holds_of_wide 5 Try.f5 rfl rfl rfl rfl rfl rfl rfl ⟨rfl, rfl, rfl, rfl, rfl⟩ rfl rfl rfl rfl rfl (by kernel_rfl) Try.func5 (by kernel_rfl)
    (of_decide_eq_true (by kernel_rfl)) (by unfold Func.isWrapper; first | (rw [if_pos (by decide +kernel)]; kernel_rfl) | (rw [if_neg (by decide +kernel)]; exact ⟨rfl, rfl⟩))
    (fun os started H enc _ => lifted os started H enc)

end Go.Proofs.Ytchbmchgdhmmmaa.devArmed
