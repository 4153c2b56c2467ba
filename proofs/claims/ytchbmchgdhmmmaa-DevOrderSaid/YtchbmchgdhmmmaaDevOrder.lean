/-
  DevOrder: for every input the law answers true: of the writes that are kept the last one of a sector stays. Conditions: none.
-/
import Derived.Test.YtchbmchgdhmmmaaDvShown
import Derived.Test.YtchbmchgdhmmmaaDvSmall
import Derived.Test.YtchbmchgdhmmmaaDvMath
import Derived.Test.YtchbmchgdhmmmaaTail
namespace Go.Rc4

/-- The first k writes, of n sectors. -/
def ws (m : Nat) (F : Nat → AR) : Nat → List (Nat × ByteArray)
  | 0 => []
  | k + 1 => ws m F k ++ [(pk (F k).at_ m, sec (F k).n)]

theorem ws_length (m : Nat) (F : Nat → AR) (k : Nat) : (ws m F k).length = k := by
  induction k with
  | zero => rfl
  | succ k ih => simp [ws, ih]

theorem ws_take (m : Nat) (F : Nat → AR) (k n : Nat) (h : n ≤ k) : (ws m F k).take n = ws m F n := by
  induction k with
  | zero => obtain rfl : n = 0 := by omega
            rfl
  | succ k ih =>
    by_cases e : n = k + 1
    · subst e
      exact List.take_of_length_le (by rw [ws_length]; exact Nat.le_refl _)
    · rw [ws, List.take_append_of_le_length (by rw [ws_length]; omega), ih (by omega)]

/-- A new device behind the first k writes. -/
def aft (m : Nat) (F : Nat → AR) (k : Nat) : DS := ⟨puts (List.replicate m nought) (ws m F k), List.replicate m nought, ws m F k, -1, false⟩

theorem aft_free (m : Nat) (F : Nat → AR) (k : Nat) : Free m (aft m F k) := ⟨by simp [aft, puts_length], rfl, rfl⟩

theorem aft_wr (m : Nat) (hm : 0 < m) (F : Nat → AR) (k : Nat) : (aft m F k).wr (pk (F k).at_ m) (sec (F k).n) = (0, aft m F (k + 1)) := by
  rw [(aft_free m F k).wr (pk_lt _ _ hm) (sec_size _)]
  simp [aft, ws, puts_append, puts]

theorem kept_ones (p : List (Nat × ByteArray)) (n : Nat) : kept p (List.replicate n 1) = p.take n := by
  induction p generalizing n with
  | nil => simp [kept]
  | cons x r ih =>
    cases n with
    | zero => rfl
    | succ n =>
      rw [List.replicate_succ, kept, if_neg (by decide), ih]
      rfl

theorem aft_pw (m : Nat) (F : Nat → AR) (k n : Nat) (h : n ≤ k) : ((aft m F k).pw (List.replicate n 1)).s = (aft m F n).s := by
  show kput (List.replicate m nought) (ws m F k) (List.replicate n 1) = puts (List.replicate m nought) (ws m F n)
  unfold kput
  rw [kept_ones, ws_take m F k n h]

end Go.Rc4
namespace Go.Proofs.Ytchbmchgdhmmmaa.devOrder
open Go.ChangeShapes Go.WideShapes Go.ChangeAt Go.RowKit Go.Rc4
open Go.ChangeMaps (open_string shut_string)

/-- The two devices and the row of the law. -/
abbrev Lot (base b c : Nat) (d e : DS) (v : Value) (m : Nat) : List (Thing base) :=
  [devT base b d, devT base c e, rowT base 3 1 v m (ints (List.replicate m 1))]

set_option maxHeartbeats 4000000 in
theorem walk (a0 : Option Addr) (len0 cap0 : Nat) (z0 : Nat → AR) (a1 : Int) (w1 : (Lit.int .i64 a1).wf = true) (w : World) (h0 : IsActs w a0 len0 z0) :
    Calls Try.prog 7 #[.slice a0 len0 cap0, .int .i64 a1] w fun e w' => e = .returned (.bool true) ∧ Below w.heap.size w w' := by
  have HA := Lib.hid (fun W (hb : Below w.heap.size w W) => IsActs.below h0 hb)
  have HSH := Lib.hid (shown_any w)
  clear h0
  by_cases hsm : small len0 z0 = true
  · have hlen := small_len hsm
    have HP := Lib.hid (pick_lit a1 (in64_of w1) (len0 + 1) ((len0 : Int) + 1) rfl (by omega) (by omega))
    have hn := pk_lt a1 (len0 + 1) (by omega)
    generalize pk a1 (len0 + 1) = n at *
    clear w1
    go_enter Try.func7, Try.ntmps7
    go_wp2_with fail
    refine HSH.out.mono ?_
    rintro e wA ⟨rfl, hbA⟩
    have HF := Lib.hid ((Fleet.start w).below hbA)
    have HI := Lib.hid (HA.out _ hbA)
    clear hbA
    go_wp2_with fail
    have C := small_any a0 len0 cap0 z0 wA HI.out
    rw [hsm] at C
    refine C.mono ?_
    clear C
    rintro e wB ⟨rfl, rfl⟩
    go_wp2_with fail
    refine (fleet_new HF.out 4 (by omega) (by omega)).mono ?_
    rintro e wB ⟨b, rfl, hF⟩
    replace HF := Lib.hid hF
    clear hF
    go_wp2_with fail
    refine (fleet_new HF.out 4 (by omega) (by omega)).mono ?_
    rintro e wB ⟨c, rfl, hF⟩
    replace HF := Lib.hid (hF.nil 3 1)
    clear hF
    go_wp2_with fail
    refine (HP.out _).mono ?_
    rintro e wC ⟨rfl, rfl⟩
    go_wp2
    go_loopw [12, 13] (fun v i wr => ∃ k : Nat, i = .int .i64 k ∧ k ≤ len0 ∧ Fleet w.heap.size w (Lot w.heap.size b c (aft 4 z0 k) (aft 4 z0 (min k n)) v (min k n)) wr) (fun _ i _ => (len0 - intOf i).toNat)
    case atStart => exact ⟨0, rfl, Nat.zero_le _, by rw [Nat.zero_min]; exact HF.out⟩
    case round =>
      rename_i v12
      obtain ⟨k, rfl, hk, hF⟩ := hrel
      obtain ⟨m, hm⟩ : ∃ m, m = min k n := ⟨_, rfl⟩
      rw [← hm] at hF
      have HF3 := Lib.hid hF
      have HM := Lib.hid hm
      have hm60 : m ≤ 60 := by omega
      obtain ⟨ka, kc, rfl⟩ := hF.slice 2 rfl
      clear hF hm
      by_cases hlt : k < len0
      · have hltI : (k : Int) < len0 := by omega
        obtain ⟨x, rfl, cc⟩ := HA.out w (Below.refl _ _) k hlt
        have HQ1 := Lib.hid (fun W (hb : Below w.heap.size w W) => (hb.cell (row_block cc.c1)).trans cc.c1)
        have HQ2 := Lib.hid (fun W (hb : Below w.heap.size w W) => (hb.cell (row_block cc.c2)).trans cc.c2)
        have HPA := Lib.hid (pick_lit (z0 k).at_ cc.i1 4 4 rfl (by omega) (by omega))
        have HSE := Lib.hid (sector_any (z0 k).n)
        have HW := Lib.hid (aft_wr 4 (by omega) z0 k)
        clear cc
        generalize (z0 k).at_ = r1 at *
        generalize (z0 k).n = r2 at *
        generalize pk r1 4 = at4 at *
        generalize sec r2 = t at *
        have lb := Lib.hid (fun W (hb : Below w.heap.size w W) => row_block (HQ1.out W hb))
        have q1 := after_cell (HQ1.out wr HF3.out.bel) (row_block (HQ1.out wr HF3.out.bel))
        have q2 := after_cell (HQ2.out wr HF3.out.bel) (row_block (HQ2.out wr HF3.out.bel))
        go_wp2
        refine wp_region_then 13 (by kernel_rfl) (by kernel_rfl) ?_
        simp only [List.take_succ_cons, List.take_zero, List.drop_succ_cons, List.drop_zero]
        repeat (go_big_quiet_step (first | with_reducible exact after_same HPA.out _ | with_reducible exact after_call HSE.out _))
        refine wpQuiet_nil ?_
        intro _ hw'
        obtain ⟨p, rfl⟩ := hw'
        have hF := HF3.out.below p.is
        clear q1 q2
        generalize p.to = w4 at hF ⊢
        have C := fleet_write hF 0 rfl (by simp [aft, ws_length]; omega) at4 t
        rw [HW.out] at C
        have HC := Lib.hid C
        clear hF C
        go_wp2_with fail
        refine HC.out.mono ?_
        clear HC
        rintro e w5 ⟨rfl, hF⟩
        have HF5 := Lib.hid hF
        clear hF
        by_cases hkn : k < n
        · have hknI : (k : Int) < n := by omega
          obtain rfl : m = k := by have := HM.out; omega
          have q1 := after_cell (HQ1.out w5 HF5.out.bel) (row_block (HQ1.out w5 HF5.out.bel))
          have q2 := after_cell (HQ2.out w5 HF5.out.bel) (row_block (HQ2.out w5 HF5.out.bel))
          go_wp2
          refine wp_region_then 13 (by kernel_rfl) (by kernel_rfl) ?_
          simp only [List.take_succ_cons, List.take_zero, List.drop_succ_cons, List.drop_zero]
          repeat (go_big_quiet_step (first | with_reducible exact after_same HPA.out _ | with_reducible exact after_call HSE.out _))
          refine wpQuiet_nil ?_
          intro _ hw'
          obtain ⟨p, rfl⟩ := hw'
          have hF := HF5.out.below p.is
          clear q1 q2
          generalize p.to = w6 at hF ⊢
          have C := fleet_write hF 1 rfl (by simp [aft, ws_length]; omega) at4 t
          rw [HW.out] at C
          have HC := Lib.hid C
          clear hF C
          go_wp2_with fail
          refine HC.out.mono ?_
          clear HC
          rintro e w7 ⟨rfl, hF⟩
          have HF7 := Lib.hid (hF.below ((Below.refl _ w7).alloc (Nat.le_refl _) (.cells #[.int .i64 1] 3)))
          clear hF
          go_wp2_with (at_builtin; refine wpList_append_fleet HF7.out 2 rfl rfl (.tmp 85) (.tmp 86) 33 rfl (.int .i64 0) 8 Try.underlying33 (by kernel_rfl) rfl (by decide) rfl ⟨w7.heap.size, 0, none⟩ 1 1 [.int .i64 1] rfl rfl ?cells ?one ?b1 ?b2 ?next)
          case cells =>
            intro j u hu
            have hj : j = 0 := by
              cases j with
              | zero => rfl
              | succ j => simp at hu
            subst hj
            simp at hu
            subst hu
            exact Lib.cell_of_heap (heap_alloc_new w7 _) 0
          case one =>
            intro u hu
            simp at hu
            subst hu
            rfl
          case b1 => unfold maxLen; omega
          case b2 => omega
          case next =>
            intro v' w8 hF
            have hF8 : Fleet w.heap.size w (Lot w.heap.size b c (aft 4 z0 (m + 1)) (aft 4 z0 (m + 1)) v' (m + 1)) w8 := by
              have e : ints (List.replicate m 1) ++ [Value.int .i64 1] = ints (List.replicate (m + 1) 1) := by
                rw [List.replicate_succ']
                simp [ints]
              rw [e] at hF
              exact hF
            have HF8 := Lib.hid hF8
            clear hF hF8
            go_wp2
            refine ⟨⟨m + 1, by go_num, by omega, ?_⟩, by simp [intOf]; omega⟩
            rw [Nat.min_eq_left (by omega)]
            exact HF8.out
        · have hknI : ¬ (k : Int) < n := by omega
          obtain rfl : m = n := by have := HM.out; omega
          go_wp2
          refine ⟨⟨k + 1, by go_num, by omega, ?_⟩, by simp [intOf]; omega⟩
          rw [Nat.min_eq_right (by omega)]
          exact HF5.out
      · have hltI : ¬ (k : Int) < len0 := by omega
        obtain rfl : k = len0 := by omega
        obtain rfl : m = n := by have := HM.out; omega
        have hF4 := fleet_power_row HF3.out 0 rfl 2 (by decide) _ _ _ _ rfl
        have HC := Lib.hid hF4
        have HFRD := Lib.hid ((aft_free 4 z0 k).pw (HF3.out.ok 0 rfl) (List.replicate m 1))
        have HS := Lib.hid (aft_pw 4 z0 k m (by omega))
        clear hF4
        generalize (aft 4 z0 k).pw (List.replicate m 1) = dd at *
        go_wp2_with fail
        refine HC.out.mono ?_
        clear HC
        rintro e w5 ⟨rfl, hF⟩
        have HF5 := Lib.hid hF
        clear hF
        go_wp2
        go_loopw [14, 15, 16, 17, 18] (fun i _ _ _ _ wq => ∃ j : Nat, i = .int .i64 j ∧ j ≤ 4 ∧ w5 = wq) (fun i _ _ _ _ _ => (4 - intOf i).toNat)
        case atStart => exact ⟨0, rfl, by omega, rfl⟩
        case round =>
          obtain ⟨j, rfl, hj, rfl⟩ := hrel
          by_cases hj4 : j < 4
          · have hj4I : (j : Int) < 4 := by omega
            have C1 := fleet_read HF5.out 0 rfl j
            have C2 := fleet_read HF5.out 1 rfl j
            rw [HFRD.out.rd hj4, HS.out] at C1
            rw [(aft_free 4 z0 m).rd hj4] at C2
            have HC1 := Lib.hid C1
            have HC2 := Lib.hid C2
            clear C1 C2
            generalize (aft 4 z0 m).s.getD j ⟨#[]⟩ = s at *
            go_wp2_with fail
            refine HC1.out.mono ?_
            rintro e w6 ⟨rfl, rfl⟩
            go_wp2_with fail
            refine HC2.out.mono ?_
            rintro e w6 ⟨rfl, rfl⟩
            go_wp2
            exact ⟨⟨j + 1, by go_num, by omega, trivial⟩, by simp [intOf]; omega⟩
          · have hj4I : ¬ (j : Int) < 4 := by omega
            go_wp2
            go_ret
            exact ⟨rfl, HF5.out.bel⟩
  · have hsm' : small len0 z0 = false := by simpa using hsm
    have HSM := Lib.hid (fun W (hb : Below w.heap.size w W) => small_any a0 len0 cap0 z0 W (HA.out W hb))
    rw [hsm'] at HSM
    go_enter Try.func7, Try.ntmps7
    go_wp2_with (first | (go_at_call 8; (with_reducible refine HSH.out.mono ?_); rintro e w1 ⟨rfl, hb1⟩) | (go_at_call 9; (with_reducible refine (HSM.out _ hb1).mono ?_); rintro e w2 ⟨rfl, rfl⟩))
    go_ret
    exact ⟨rfl, hb1⟩

set_option maxRecDepth 100000 in
theorem lifted (os : Os) (started : os.Started) (H : Type) (enc : TypeId × Value → H) :
    ReturnsInHanded {} Try.checked os 7 .any (Rows.devOrderSpec.pre6 enc Try.prog Try.f7 Rows.devOrderRow.domain false) (Rows.devOrderSpec.post enc Try.prog Try.f7 false true false false) := by
  refine returnsInHanded_of_change (C := Try.checked) own started (by kernel_rfl) Try.func7
    (ChangeSpec.witness6 (enc := enc) (C := Try.checked) false ⟨#[], #[.slice none 0 0, .int .i64 0], []⟩ 8 (by kernel_rfl) (by kernel_rfl) (by kernel_rfl) (by kernel_rfl)) ?_
  intro W base args ds gs before hval0 hW _ _
  have hval : ∀ (j : Nat) t v, Try.f7.params[j]? = some t → args[j]? = some v → Value.okWide Try.prog W .any base t v := hval0
  have hW' := hW
  obtain ⟨p, q, hA0, hV, rfl, hfz, hnd⟩ := hW
  have hA : DataW.TrodAll enc Try.prog W 0 (fun _ => true) true Try.f7.params.toList args.toList ds p := hA0
  rw [Try.params7] at hA hval
  obtain ⟨v0, vs0, d0, ds0, p0, q0, hargs, rfl, rfl, h0, r0⟩ := trodAll_cons hA
  obtain ⟨v1, vs1, d1, ds1, p1, q1, rfl, rfl, rfl, h1, r1⟩ := trodAll_cons r0
  obtain ⟨rfl, rfl, rfl⟩ := trodAll_nil r1
  obtain rfl : args = #[v0, v1] := by cases args; simp_all
  obtain ⟨rfl, rfl⟩ := trodVars_none hV
  obtain ⟨a0, len0, cap0, rfl⟩ := okWide_slice Try.underlying22 (hval 0 22 v0 rfl rfl)
  have k0 := h0
  have lt0 : ∀ x ∈ p0, x.block < W.heap.size := by obtain ⟨m, hm⟩ := k0; exact DataW.trod_lt m _ _ _ hm
  obtain ⟨z0, w0⟩ : ∃ zs, IsActs W a0 len0 zs := by
    obtain ⟨fuel, hf⟩ := h0
    exact open_acts hf
  obtain ⟨a1, rfl, rfl, rfl, w1⟩ := open_int Try.underlying3 (hval 1 3 v1 rfl rfl) h1
  clear hA0 hval0
  refine (walk a0 len0 cap0 z0 a1 w1 W w0).mono fun e W' ⟨he, bel⟩ => ?_
  subst he
  exact ⟨_, rfl, _, _, _, [], _, [], hW', trodAll_mk1 (shut_bool Try.underlying4 _), (trodAll_cons_mk (Below.trod laidOut (by kernel_rfl) (of_decide_eq_true (by kernel_rfl)) k0 bel lt0) (trodAll_cons_mk (shut_int Try.underlying3 w1) trodAll_mk0)), rfl, bel.frame _, fun h => by cases h⟩

theorem holds : Rows.DevOrderSaid :=
  OpenClaim.holds_of_wide 7 Try.f7 rfl rfl rfl rfl rfl rfl rfl ⟨rfl, rfl, rfl, rfl, rfl⟩ rfl rfl rfl rfl rfl (by kernel_rfl) Try.func7 (by kernel_rfl)
    (of_decide_eq_true (by kernel_rfl)) (by unfold Func.isWrapper; first | (rw [if_pos (by decide +kernel)]; kernel_rfl) | (rw [if_neg (by decide +kernel)]; exact ⟨rfl, rfl⟩))
    (fun os started H enc _ => lifted os started H enc)

end Go.Proofs.Ytchbmchgdhmmmaa.devOrder
