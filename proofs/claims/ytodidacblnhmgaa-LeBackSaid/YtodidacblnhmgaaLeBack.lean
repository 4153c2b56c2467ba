/-
  LeBack: for every input the law answers true: numbers that were put are read again, one by one, and nothing is left; with a byte fewer the last one is not. Conditions: none.
-/
import Derived.Test.YtodidacblnhmgaaLeLaw
import Derived.Test.YtodidacblnhmgaaLeBackA
import Derived.BigCall
import Derived.BigGuard
namespace Go.Proofs.Ytodidacblnhmgaa.leBack
open Go.ChangeShapes Go.WideShapes Go.ChangeAt Go.RowKit
open Go.ChangeMaps (open_string shut_string)
open Go.BigFrame

set_option maxHeartbeats 4000000 in
set_option maxRecDepth 100000 in
theorem some_row (x : Addr) (len cap : Nat) (v : Nat → Nat) (w : World) (hl : len ≤ 60) (hl1 : 1 ≤ len)
    (hrow : Hid (∀ i, i < len → w.cell? (x.add i) = some (.int .u64 (v i)))) (hv : Hid (∀ i, i < len → v i < 18446744073709551616)) :
    Calls Try.prog 6 #[.slice (some x) len cap] w fun e w' => e = .returned (.bool true) ∧ Below w.heap.size w w' := by
  have hl' : ¬ (60 : Int) < len := by omega
  have hl2 : ((len : Int) == 0) = false := by rw [beq_eq_false_iff_ne]; omega
  go_enter Try.func6, Try.ntmps6
  go_wp2_with (go_at_call 10; refine (shown_any _).mono ?_; rintro e w1 ⟨rfl, hbw⟩)
  go_loopw [4, 5] (fun s i wr => ∃ (k : Nat) (S : ByteArray), s = .string S ∧ Hid (S = ⟨(Rc2.cat v k).toArray⟩) ∧ i = .int .i64 k ∧ k ≤ len ∧ Below w.heap.size w wr) (fun _ i _ => (len - intOf i).toNat)
  case atStart => exact ⟨0, _, rfl, rfl, rfl, Nat.zero_le _, hbw⟩
  case round =>
    obtain ⟨k, S, rfl, HS, rfl, hk, hb⟩ := hrel
    clear hbw
    by_cases hlt : k < len
    · have hlt' : (k : Int) < len := by omega
      have hc := (hb.cell (row_block (hrow.out k hlt))).trans (hrow.out k hlt)
      obtain ⟨r, hr⟩ : ∃ r : Nat, r = k % 8 := ⟨_, rfl⟩
      have hmod : (k : Int) % 8 = r := by omega
      have hr8 : (r : Int) ≤ 7 := by omega
      have hP := Put_any (v k) (hv.out k hlt) (1 + (r : Int))
      rw [show (max 0 (min (1 + (r : Int)) 8)).toNat = r + 1 by omega] at hP
      have hadd : (9223372036854775807 < S.size + (ByteArray.mk (Rc2.put (r + 1) (v k)).toArray).size) = False := by
        apply eq_false
        have h1 : S.size ≤ 8 * k := by rw [HS.out]; exact (Rc2.cat_len v k).2
        have h2 : (ByteArray.mk (Rc2.put (r + 1) (v k)).toArray).size = r + 1 := Rc2.put_length _ _
        omega
      have HN : Hid (S ++ ByteArray.mk (Rc2.put (r + 1) (v k)).toArray = ⟨(Rc2.cat v (k + 1)).toArray⟩) := by
        show _ = _
        rw [HS.out, ByteArray.mk_append_mk, Rc2.cat, ← hr]
      clear hr
      generalize ByteArray.mk (Rc2.put (r + 1) (v k)).toArray = P at *
      have HP := Lib.hid hP
      clear hP
      go_wp2_with (go_at_call 11; refine (HP.out _).mono ?_; rintro e w2 ⟨rfl, hb2⟩)
      go_roundw
      case rel => exact ⟨k + 1, _, rfl, HN, by go_num, by omega, below_trans hb hb2⟩
      case measure => simp [intOf]; omega
    · obtain rfl : k = len := by omega
      have hlt' : ¬ (k : Int) < k := by omega
      clear hlt
      have hS1 : 1 ≤ (S.size : Int) := by
        have h1 : S.size = (Rc2.cat v k).length := by rw [HS.out]; rfl
        have := (Rc2.cat_len v k).1
        omega
      have hS2 : (S.size : Int) ≤ 480 := by
        have h1 : S.size = (Rc2.cat v k).length := by rw [HS.out]; rfl
        have := (Rc2.cat_len v k).2
        omega
      have hS0 : 0 ≤ (S.size : Int) - 1 := by omega
      have hS3 : (S.size : Int) - 1 ≤ S.size := by omega
      have hsz := Lib.hid hb.size
      obtain ⟨W, hW⟩ : ∃ W, W = wr := ⟨_, rfl⟩
      subst hW
      go_wp2
      go_loopw [8] (fun i w2 => ∃ j : Nat, i = .int .i64 j ∧ j ≤ k ∧ Rd 30 W.heap.size ⟨(Rc2.suf v j (k - j)).toArray⟩ false w2 ∧ Short v k (W.heap.size + 1) j w2 ∧ Below w.heap.size w w2) (fun i _ => (k - intOf i).toNat)
      case atStart =>
        have e1 : S = ⟨(Rc2.suf v 0 (k - 0)).toArray⟩ := by rw [HS.out, Rc2.cat_eq]; rfl
        have e2 : S.extract 0 (S.size - 1) = ⟨((Rc2.suf v 0 (k - 0)).dropLast).toArray⟩ := by
          rw [extract_take, e1, List.dropLast_eq_take]
          rfl
        have h1 := Rd.new 30 S false W
        have h2 := h1.below ((Below.refl _ _).alloc (Nat.le_refl _) (.cells #[.string (S.extract 0 (S.size - 1)), .bool false] 30 (0, 0)))
        have h3 := Rd.new 30 (S.extract 0 (S.size - 1)) false (W.alloc (.cells #[.string S, .bool false] 30 (0, 0)))
        have e : (W.alloc (.cells #[.string S, .bool false] 30 (0, 0))).heap.size = W.heap.size + 1 := by simp
        rw [e] at h3
        refine ⟨0, rfl, Nat.zero_le _, ?_, ⟨fun _ => ?_, fun h => by omega⟩, (hb.alloc hsz.out _).alloc (by have := hsz.out; simp; omega) _⟩
        · rw [e1] at h2
          rw [e1]
          exact h2
        · rw [e2] at h3
          rw [e2]
          exact h3
      case round =>
        obtain ⟨j, rfl, hj, hr, hq, hb2⟩ := hrel
        have HR := Lib.hid hr
        have HQ := Lib.hid hq
        clear hr hq hS0 hS1 hS2 hS3 HS
        by_cases hlt : j < k
        · have hltI : (j : Int) < k := by omega
          have hx := hrow.out j hlt
          have hvj := hv.out j hlt
          obtain ⟨r, hr⟩ : ∃ r : Nat, r = j % 8 := ⟨_, rfl⟩
          have hmod : (j : Int) % 8 = r := by omega
          have hr7 : r < 8 := by omega
          have hr8 : (r : Int) ≤ 7 := by omega
          have h1 := HR.out
          rw [Rc2.suf_next v j k hlt, ← hr] at h1
          have HN1 := Lib.hid (num_one W.heap.size r (v j) _ hr7 (by have := (Rc2.suf_len v (j + 1) (k - (j + 1))).2; omega) _ h1)
          clear h1 HR
          have hP := Put_any (v j) hvj (1 + (r : Int))
          rw [show (max 0 (min (1 + (r : Int)) 8)).toNat = r + 1 by omega] at hP
          have hy : v j % 256 ^ (r + 1) < 18446744073709551616 := Nat.lt_of_le_of_lt (Nat.mod_le _ _) hvj
          have hP2 := Put_any (v j % 256 ^ (r + 1)) hy (1 + (r : Int))
          rw [show (max 0 (min (1 + (r : Int)) 8)).toNat = r + 1 by omega, Rc2.put_mod] at hP2
          have H7 : Hid (r = 7 → v j % 256 ^ (r + 1) = v j) := fun h => by rw [h]; exact Nat.mod_eq_of_lt hvj
          by_cases hla : j + 1 < k
          · have h2 := HQ.out.1 hlt
            rw [Rc2.suf_short v j k hla, ← hr] at h2
            have H2 := Lib.hid h2
            have HN2 := Lib.hid (num_one (W.heap.size + 1) r (v j) (Rc2.suf v (j + 1) (k - (j + 1))).dropLast hr7 (by have := (Rc2.suf_len v (j + 1) (k - (j + 1))).2; rw [List.length_dropLast]; omega))
            have hA : decide ((j : Int) < (k : Int) - 1) = true := decide_eq_true (by omega)
            have hB : ((j : Int) == (k : Int) - 1) = false := by rw [beq_eq_false_iff_ne]; omega
            have hI : (j : Int) < (k : Int) - 1 := by omega
            clear h2 HQ hr
            generalize v j % 256 ^ (r + 1) = y at *
            generalize ByteArray.mk (Rc2.put (r + 1) (v j)).toArray = P at *
            have HP := Lib.hid hP
            have HP2 := Lib.hid hP2
            clear hP hP2 hy hvj
            go_wp2_with (first
              | (go_at_call 15; with_reducible refine HN1.out.mono ?_; rintro e w2 ⟨rfl, hr2, hk2⟩; have hb3 : Below w.heap.size w w2 := hb2.trans (hk2.below hsz.out); have HQ2 := Lib.hid (H2.out.kept hk2 (by omega)); have HR2 := Lib.hid hr2; clear hr2 hk2)
              | (go_at_call 15; with_reducible refine (HN2.out _ HQ2.out).mono ?_; rintro e w3 ⟨rfl, hq3, hk3⟩; have hb4 : Below w.heap.size w w3 := hb3.trans (hk3.below (Nat.le_trans hsz.out (Nat.le_succ _))); have HR3 := Lib.hid (HR2.out.kept hk3 (by omega)); have HQ3 := Lib.hid hq3; clear hq3 hk3))
            have hcw := (hb4.cell (row_block hx)).trans hx
            have hcp := after_cell hcw (row_block hcw)
            refine wp_region_after (by kernel_rfl) (by kernel_rfl) ?_
            repeat (go_big_quiet_step (first | with_reducible exact after_call HP.out _ | with_reducible exact after_call HP2.out _))
            refine wpQuiet_nil ?_
            intro _ hw'
            obtain ⟨p, rfl⟩ := hw'
            have hb5 : Below w.heap.size w p.to := hb4.trans (p.is.mono hb4.size)
            have HR4 := Lib.hid (HR3.out.below p.is)
            have HQ4 := Lib.hid (HQ3.out.below p.is)
            by_cases h7 : r = 7
            · have e7 := H7.out h7
              subst e7
              have h7' : ((r : Int) == 7) = true := by rw [beq_iff_eq]; omega
              have h7i : (r : Int) = 7 := by omega
              clear h7
              go_wp2
              go_roundw
              case rel => exact ⟨j + 1, by go_num, by omega, HR4.out, ⟨fun _ => HQ4.out, fun h => by omega⟩, hb5⟩
              case measure => simp [intOf]; omega
            · have h7' : ((r : Int) == 7) = false := by rw [beq_eq_false_iff_ne]; omega
              have h7i : ¬ (r : Int) = 7 := by omega
              clear h7
              go_wp2
              go_roundw
              case rel => exact ⟨j + 1, by go_num, by omega, HR4.out, ⟨fun _ => HQ4.out, fun h => by omega⟩, hb5⟩
              case measure => simp [intOf]; omega
          · have h2 := HQ.out.1 hlt
            have hk1 : j + 1 = k := by omega
            rw [Rc2.suf_last v j k hk1, ← hr] at h2
            have H2 := Lib.hid h2
            have HN2 := Lib.hid (num_last (W.heap.size + 1) r (v j) hr7)
            have hA : decide ((j : Int) < (k : Int) - 1) = false := decide_eq_false (by omega)
            have hB : ((j : Int) == (k : Int) - 1) = true := by rw [beq_iff_eq]; omega
            have hI : ¬ (j : Int) < (k : Int) - 1 := by omega
            clear h2 HQ hr hla
            have HK1 := Lib.hid hk1
            clear hk1
            generalize v j % 256 ^ (r + 1) = y at *
            generalize ByteArray.mk (Rc2.put (r + 1) (v j)).toArray = P at *
            have HP := Lib.hid hP
            have HP2 := Lib.hid hP2
            clear hP hP2 hy hvj
            go_wp2_with (first
              | (go_at_call 15; with_reducible refine HN1.out.mono ?_; rintro e w2 ⟨rfl, hr2, hk2⟩; have hb3 : Below w.heap.size w w2 := hb2.trans (hk2.below hsz.out); have HQ2 := Lib.hid (H2.out.kept hk2 (by omega)); have HR2 := Lib.hid hr2; clear hr2 hk2)
              | (go_at_call 15; with_reducible refine (HN2.out _ HQ2.out).mono ?_; rintro e w3 ⟨rfl, hq3, hk3⟩; have hb4 : Below w.heap.size w w3 := hb3.trans (hk3.below (Nat.le_trans hsz.out (Nat.le_succ _))); have HR3 := Lib.hid (HR2.out.kept hk3 (by omega)); have HQ3 := Lib.hid hq3; clear hq3 hk3))
            have hcw := (hb4.cell (row_block hx)).trans hx
            have hcp := after_cell hcw (row_block hcw)
            have hbd := after_cell (w := w3) (a := ⟨W.heap.size + 1, 1, none⟩) (v := .bool true) (by rw [Lib.cell_of_heap HQ3.out]; rfl) HQ3.out.lt
            refine wp_region_after (by kernel_rfl) (by kernel_rfl) ?_
            repeat (go_big_quiet_step (first | with_reducible exact after_call HP.out _ | with_reducible exact after_call HP2.out _))
            refine wpQuiet_nil ?_
            intro _ hw'
            obtain ⟨p, rfl⟩ := hw'
            have hb5 : Below w.heap.size w p.to := hb4.trans (p.is.mono hb4.size)
            have HR4 := Lib.hid (HR3.out.below p.is)
            have HQ4 := Lib.hid (HQ3.out.below p.is)
            by_cases h7 : r = 7
            · have e7 := H7.out h7
              subst e7
              have h7' : ((r : Int) == 7) = true := by rw [beq_iff_eq]; omega
              have h7i : (r : Int) = 7 := by omega
              clear h7
              go_wp2
              go_roundw
              case rel => exact ⟨j + 1, by go_num, by have := HK1.out; omega, HR4.out, ⟨fun h => by have := HK1.out; omega, fun _ => ⟨_, HQ4.out⟩⟩, hb5⟩
              case measure => simp [intOf]; omega
            · have h7' : ((r : Int) == 7) = false := by rw [beq_eq_false_iff_ne]; omega
              have h7i : ¬ (r : Int) = 7 := by omega
              clear h7
              go_wp2
              go_roundw
              case rel => exact ⟨j + 1, by go_num, by have := HK1.out; omega, HR4.out, ⟨fun h => by have := HK1.out; omega, fun _ => ⟨_, HQ4.out⟩⟩, hb5⟩
              case measure => simp [intOf]; omega
        · have hltI : ¬ (j : Int) < k := by omega
          have hjk : j = k := by omega
          have h1 := HR.out
          rw [hjk, Nat.sub_self] at h1
          obtain ⟨tq, h2⟩ := HQ.out.2 hjk
          have HO := Lib.hid (Over_any _ _ _ _ h1)
          have HO2 := Lib.hid (Over_any _ _ _ _ h2)
          have e1 : ((ByteArray.mk (Rc2.suf v k 0).toArray).toList.isEmpty && !false) = true := by
            rw [show ByteArray.mk (Rc2.suf v k 0).toArray = ByteArray.empty from rfl]
            decide +kernel
          have e2 : (tq.toList.isEmpty && !true) = false := by simp
          rw [e1] at HO
          rw [e2] at HO2
          clear h1 h2 e1 e2 HR HQ hjk hlt
          go_wp2_with (first | (go_at_call 19; with_reducible refine HO.out.mono ?_; rintro e w3 ⟨rfl, rfl⟩) | (go_at_call 19; with_reducible refine HO2.out.mono ?_; rintro e w3 ⟨rfl, rfl⟩))
          go_ret
          exact ⟨rfl, hb2⟩

set_option maxHeartbeats 1000000 in
set_option maxRecDepth 100000 in
theorem long_row (a : Option Addr) (len cap : Nat) (w : World) (hl : 60 < (len : Int)) :
    Calls Try.prog 6 #[.slice a len cap] w fun e w' => e = .returned (.bool true) ∧ Below w.heap.size w w' := by
  go_enter Try.func6, Try.ntmps6
  go_wp2_with (go_at_call 10; refine (shown_any _).mono ?_; rintro e w1 ⟨rfl, hbw⟩)
  go_ret
  exact ⟨rfl, hbw⟩

set_option maxHeartbeats 1000000 in
set_option maxRecDepth 100000 in
theorem no_row (a : Option Addr) (cap : Nat) (w : World) :
    Calls Try.prog 6 #[.slice a 0 cap] w fun e w' => e = .returned (.bool true) ∧ Below w.heap.size w w' := by
  go_enter Try.func6, Try.ntmps6
  go_wp2_with (go_at_call 10; refine (shown_any _).mono ?_; rintro e w1 ⟨rfl, hbw⟩)
  go_ret
  exact ⟨rfl, hbw⟩

theorem walk (a : Option Addr) (len cap : Nat) (z : List Int) (w : World) (w0 : IsRow .u64 w a len cap z) :
    Calls Try.prog 6 #[.slice a len cap] w fun e w' => e = .returned (.bool true) ∧ Below w.heap.size w w' := by
  by_cases hl : len ≤ 60
  · by_cases h0 : len = 0
    · subst h0
      exact no_row a cap w
    · rcases w0 with ⟨rfl, rfl, rfl, rfl⟩ | ⟨x, rfl, h1, _, h3, h4, h5⟩
      · exact absurd rfl h0
      · have hz : ∀ i, i < len → z.getD i 0 = ((z.getD i 0).toNat : Int) ∧ (z.getD i 0).toNat < 18446744073709551616 := by
          intro i hi
          have hm : z.getD i 0 ∈ z := by
            rw [List.getD_eq_getElem?_getD, List.getElem?_eq_getElem (by omega)]
            exact List.getElem_mem _
          obtain ⟨n, hn, hlt⟩ := nat_of (h5 _ hm)
          rw [hn]
          exact ⟨by simp, by simpa using hlt⟩
        refine some_row x len cap (fun i => (z.getD i 0).toNat) w hl (by omega) (fun i hi => ?_) (fun i hi => (hz i hi).2)
        rw [← (hz i hi).1]
        exact h4 i (by omega)
  · exact long_row a len cap w (by omega)

set_option maxRecDepth 100000 in
theorem lifted (os : Os) (started : os.Started) (H : Type) (enc : TypeId × Value → H) :
    ReturnsInHanded {} Try.checked os 6 .any (Rows.leBackSpec.pre6 enc Try.prog Try.f6 Rows.leBackRow.domain false) (Rows.leBackSpec.post enc Try.prog Try.f6 false true false false) := by
  refine returnsInHanded_of_change (C := Try.checked) own started (by kernel_rfl) Try.func6
    (ChangeSpec.witness6 (enc := enc) (C := Try.checked) false ⟨#[], #[.slice none 0 0], []⟩ 8 (by kernel_rfl) (by kernel_rfl) (by kernel_rfl) (by kernel_rfl)) ?_
  intro W base args ds gs before hval0 hW _ _
  have hval : ∀ (j : Nat) t v, Try.f6.params[j]? = some t → args[j]? = some v → Value.okWide Try.prog W .any base t v := hval0
  have hW' := hW
  obtain ⟨p, q, hA0, hV, rfl, hfz, hnd⟩ := hW
  have hA : DataW.TrodAll enc Try.prog W 0 (fun _ => true) true Try.f6.params.toList args.toList ds p := hA0
  rw [Try.params6] at hA hval
  obtain ⟨v0, vs0, d0, ds0, p0, q0, hargs, rfl, rfl, h0, r0⟩ := trodAll_cons hA
  obtain ⟨rfl, rfl, rfl⟩ := trodAll_nil r0
  obtain rfl : args = #[v0] := by cases args; simp_all
  obtain ⟨rfl, rfl⟩ := trodVars_none hV
  obtain ⟨a0, len0, cap0, rfl⟩ := okWide_slice Try.underlying39 (hval 0 39 v0 rfl rfl)
  have k0 := h0
  have lt0 : ∀ x ∈ p0, x.block < W.heap.size := by obtain ⟨m, hm⟩ := k0; exact DataW.trod_lt m _ _ _ hm
  obtain ⟨z0, w0⟩ : ∃ zs, IsRow .u64 W a0 len0 cap0 zs := by
    obtain ⟨fuel, hf⟩ := h0
    rcases open_ints Try.underlying39 Try.underlying22 (by kernel_rfl) hf with ⟨hcs, _⟩ | ⟨x, l, c, zs, hcs, _, hl, hm, hz, _, hcell, hwz⟩
    · simp [Value.cells] at hcs
      obtain ⟨rfl, rfl, rfl⟩ := hcs
      exact ⟨[], .inl ⟨rfl, rfl, rfl, rfl⟩⟩
    · simp [Value.cells] at hcs
      obtain ⟨rfl, rfl, rfl⟩ := hcs
      exact ⟨zs, .inr ⟨_, rfl, hl, hm, by simpa using hz, hcell, hwz⟩⟩
  clear hA0 hval0
  refine (walk a0 len0 cap0 z0 W w0).mono fun e W' ⟨he, bel⟩ => ?_
  subst he
  exact ⟨_, rfl, _, _, _, [], _, [], hW', trodAll_mk1 (shut_bool Try.underlying4 _), (trodAll_cons_mk (Below.trod laidOut (by kernel_rfl) (of_decide_eq_true (by kernel_rfl)) k0 bel lt0) trodAll_mk0), rfl, bel.frame _, fun h => by cases h⟩

theorem holds : Rows.LeBackSaid :=
  OpenClaim.holds_of_wide 6 Try.f6 rfl rfl rfl rfl rfl rfl rfl ⟨rfl, rfl, rfl, rfl, rfl⟩ rfl rfl rfl rfl rfl (by kernel_rfl) Try.func6 (by kernel_rfl)
    (of_decide_eq_true (by kernel_rfl)) (by unfold Func.isWrapper; first | (rw [if_pos (by decide +kernel)]; kernel_rfl) | (rw [if_neg (by decide +kernel)]; exact ⟨rfl, rfl⟩))
    (fun os started H enc _ => lifted os started H enc)

end Go.Proofs.Ytodidacblnhmgaa.leBack
