/-
  DirTurned: for every input the law answers true: a directory's bytes of which some bits are turned, all within 32 beside one another, are refused, and so are they when they are cut. Conditions: none.
-/
import Derived.Test.YteellffkjjllgaaQDrTurn
namespace Go.Proofs.Yteellffkjjllgaa.dirTurned
open Go.ChangeShapes Go.WideShapes Go.ChangeAt Go.RowKit Go.Rc5 Go.Rc6 Go.Rc7
open Go.ChangeMaps (open_string shut_string)

set_option maxRecDepth 100000 in
set_option maxHeartbeats 16000000 in
theorem walk (a : Option Addr) (n c : Nat) (L : List Fl) (p : Int) (hp : (Lit.int .i64 p).wf = true) (q : Int) (hq : (Lit.int .u32 q).wf = true) (en : Int) (hen : (Lit.int .i64 en).wf = true) (w : World) (h : IsFiles w a n c L) :
    Calls Try.prog 7 #[.slice a n c, .int .i64 p, .int .u32 q, .int .i64 en] w fun e w' => e = .returned (.bool true) ∧ Below w.heap.size w w' := by
  have HI := Lib.hid (fun W (hW : Below w.heap.size w W) => IsFiles.below h hW)
  obtain ⟨P, x, hP, hPx⟩ := h.put
  have HP := Lib.hid hP
  have HPX := Lib.hid hPx
  clear h hP hPx
  obtain ⟨hp1, hp2⟩ := in64_of hp
  obtain ⟨he1, he2⟩ := in64_of hen
  obtain ⟨nn, rfl, hnn⟩ := nat_of32 hq
  clear hp hq hen
  go_enter Try.func7, Try.ntmps7
  go_wp2_with fail
  refine (shown_any _).mono ?_
  rintro e w1 ⟨rfl, hb1⟩
  have HB := Lib.hid hb1
  have hI := HI.out _ hb1
  have HSm := Lib.hid (small_any L a n c w1 hI.at_ hI.size)
  clear hb1 hI
  go_wp2_with fail
  refine HSm.out.mono ?_
  rintro e w2 ⟨⟨b, rfl, hsm⟩, rfl⟩
  clear HSm hsm HI
  cases b with
  | false =>
    go_wp2
    go_ret
    exact ⟨rfl, HB.out⟩
  | true =>
    go_wp2_with fail
    refine (HP.out _ HB.out).mono ?_
    rintro e w3 ⟨rfl, hb3⟩
    replace HB := Lib.hid (below_trans HB.out hb3)
    clear hb3 HP
    rcases HPX.out with ⟨rfl, hd, rfl⟩ | ⟨rfl, _⟩
    · clear HPX
      have HD := Lib.hid hd
      have hz := dirB_size L
      have hbz := hd.body_le
      have HTT := Lib.hid (fun (l : List UInt8) (pn : Nat) (h : Turned (dirB L).data.toList pn nn 32 l) (h0 : nn ≠ 0) (hp : pn ≤ 8 * l.length) => not_dir_of (turned_none h hnn h0 hp))
      have HTC := Lib.hid (fun q => cut_none hd q)
      have hlo : (dirB L).data.toList.length = (dirB L).size := (size_list _).symm
      have HLO := Lib.hid hlo
      have hcv := fun W => run_bytes_of_string (P := Try.prog) W 9 54 5 (dirB L) Try.underlying9 Try.underlying54 Try.underlying5
      have HTF := Lib.hid (fun s hs W => Take_files s hs W)
      generalize dirB L = D at *
      generalize (bodyT L).length = bl at *
      have hDs : (D.size : Int) ≤ 200000 := by omega
      have hD4 : (4 : Int) ≤ D.size := by omega
      clear hz hbz hlo hd
      by_cases h0 : nn = 0
      · subst h0
        go_wp2
        go_ret
        exact ⟨rfl, HB.out⟩
      have h0' : ((nn : Int) == 0) = false := beq_eq_false_iff_ne.2 (by omega)
      by_cases e1 : p < 0
      · go_wp2
        go_ret
        exact ⟨rfl, HB.out⟩
      by_cases e2 : 8 * (D.size : Int) - 32 < p
      · go_wp2
        go_ret
        exact ⟨rfl, HB.out⟩
      obtain ⟨pn, rfl⟩ : ∃ m : Nat, p = (m : Int) := ⟨p.toNat, by omega⟩
      have HN : Hid (nn < 4294967296 ∧ nn ≠ 0) := ⟨hnn, h0⟩
      obtain ⟨N, hN⟩ : ∃ N, D.size = N := ⟨_, rfl⟩
      rw [hN] at HLO hDs hD4 e2 hcv
      have HDN := Lib.hid hN
      clear hnn h0
      go_wp2_with fail
      clear hcv
      have hst := BRow.start w3 D (grownCap w3 N 0 5)
      have hbs := ((Below.refl _ w3).alloc (Nat.le_refl _) (.cells (bytesRow D (grownCap w3 N 0 5)) 5 ((bytesRow D (grownCap w3 N 0 5)).size, (bytesRow D (grownCap w3 N 0 5)).size + 1))).drew
      generalize grownCap w3 N 0 5 = cap at *
      go_loopw [14] (fun i wr => ∃ k : Nat, i = .int .i64 k ∧ k ≤ 32 ∧ Hid (Now w3 w3.heap.size D.data.toList pn nn k wr)) (fun i _ => (32 - intOf i).toNat)
      case atStart => exact ⟨0, rfl, by omega, ⟨_, Turned.start _ _ _, hst, hbs, by simp⟩⟩
      case round =>
        obtain ⟨k, rfl, hk, hT⟩ := hrel
        clear hst hbs
        by_cases hlt : k < 32
        · have ha : bits BinOp.and IntKind.u32 ((nn : Int) / 2 ^ k) 1 = ((nn / 2 ^ k % 2 : Nat) : Int) := by
            have h := and1 (nn / 2 ^ k) (Nat.lt_of_le_of_lt (Nat.div_le_self _ _) HN.out.1)
            rw [Int.natCast_ediv, Int.natCast_pow] at h
            exact h
          rcases Nat.mod_two_eq_zero_or_one (nn / 2 ^ k) with hb | hb <;> rw [hb] at ha
          · have HBb := Lib.hid hb
            clear hb
            go_wp2
            go_roundw
            case rel => exact ⟨k + 1, by go_num, by omega, hT.out.pass HBb.out⟩
            case measure => simp [intOf]; omega
          · obtain ⟨j, hj⟩ : ∃ j : Nat, j = pn + k := ⟨_, rfl⟩
            obtain ⟨c', v, hcell, hfz, hxv, hnow⟩ := hT.out.turn (Nat.le_refl _) hb j hj (by rw [HLO.out]; omega)
            have hq : (j : Int) / 8 < N := by omega
            have hq2 : j / 8 < N := by omega
            have h1 : IntKind.i64.wrap ((pn : Int) + k) = (j : Int) := by rw [hj]; exact IntWalk.i64_in _ (by omega)
            have HNOW := Lib.hid hnow
            clear hj hb hnow hT
            go_wp2
            go_region
            go_wp2
            go_roundw
            case rel => exact ⟨k + 1, by go_num, by omega, HNOW⟩
            case measure => simp [intOf]; omega
        · obtain rfl : k = 32 := by omega
          obtain ⟨l, hbk, hba, hTu⟩ := hT.out.over (cap := cap) (N := N) HLO.out.symm
          have hll : l.length = N := by rw [hTu.1, HLO.out]
          have hnd := HTT.out l pn hTu HN.out.2 (by omega)
          have hRz : (ByteArray.mk l.toArray).size = N := by show l.toArray.size = _; simpa using hll
          replace HB := Lib.hid (below_trans HB.out hba)
          have HE9 := Lib.hid hnd.1
          have HND := Lib.hid hnd.2
          have HT1 := Lib.hid (HTF.out ⟨l.toArray⟩ (by omega))
          generalize ByteArray.mk l.toArray = R at hbk HE9 HND HT1 hRz
          clear hTu hT hba HTT hnd hll hRz
          obtain ⟨m1, f1⟩ : ∃ m, min en ((N : Int) - 1) = m := ⟨_, rfl⟩
          obtain ⟨qn, f2, hqn⟩ : ∃ qn : Nat, max 0 m1 = (qn : Int) ∧ qn < N := ⟨(max 0 m1).toNat, by omega, by omega⟩
          have HCut := Lib.hid (HTC.out qn (by rw [HDN.out]; exact hqn))
          have HT2 := Lib.hid (HTF.out (D.extract 0 qn) (by rw [ByteArray.size_extract, HDN.out]; omega))
          have hx0 : (errT (D.extract 0 qn) == 0) = false := beq_eq_false_iff_ne.2 (errT_ne _)
          clear HTC HTF he1 he2
          go_wp2_with fail
          refine (HT1.out _).mono ?_
          rintro e w5 hT5
          rcases hT5 with ⟨M, _, _, hM, hD5, _⟩ | ⟨_, rfl, hb5⟩
          · exact absurd ⟨M, hM, hD5⟩ HND.out
          rw [HE9.out]
          replace HB := Lib.hid (below_trans HB.out hb5)
          clear hb5 HT1 HE9 HND hbk
          go_wp2_with fail
          refine (HT2.out _).mono ?_
          rintro e w6 hT6
          rcases hT6 with ⟨M, _, _, hM, hD6, _⟩ | ⟨_, rfl, hb6⟩
          · exact absurd ⟨M, hM, hD6⟩ HCut.out
          replace HB := Lib.hid (below_trans HB.out hb6)
          clear hb6 HT2 HCut
          generalize errT (D.extract 0 qn) = xe at hx0 ⊢
          have hxn : (xe != 0) = true := by rw [bne, hx0]; rfl
          go_wp2
          go_ret
          exact ⟨by simp, HB.out⟩
    · clear HPX
      go_wp2
      go_ret
      exact ⟨rfl, HB.out⟩

set_option maxRecDepth 100000 in
theorem lifted (os : Os) (started : os.Started) (H : Type) (enc : TypeId × Value → H) :
    ReturnsInHanded {} Try.checked os 7 .any (Rows.dirTurnedSpec.pre6 enc Try.prog Try.f7 Rows.dirTurnedRow.domain false) (Rows.dirTurnedSpec.post enc Try.prog Try.f7 false true false false) := by
  refine returnsInHanded_of_change (C := Try.checked) own started (by kernel_rfl) Try.func7
    (ChangeSpec.witness6 (enc := enc) (C := Try.checked) false ⟨#[], #[.slice none 0 0, .int .i64 0, .int .u32 0, .int .i64 0], []⟩ 8 (by kernel_rfl) (by kernel_rfl) (by kernel_rfl) (by kernel_rfl)) ?_
  intro W base args ds gs before hval0 hW _ _
  have hval : ∀ (j : Nat) t v, Try.f7.params[j]? = some t → args[j]? = some v → Value.okWide Try.prog W .any base t v := hval0
  have hW' := hW
  obtain ⟨p, q, hA0, hV, rfl, hfz, hnd⟩ := hW
  have hA : DataW.TrodAll enc Try.prog W 0 (fun _ => true) true Try.f7.params.toList args.toList ds p := hA0
  rw [Try.params7] at hA hval
  obtain ⟨v0, vs0, d0, ds0, p0, q0, hargs, rfl, rfl, h0, r0⟩ := trodAll_cons hA
  obtain ⟨v1, vs1, d1, ds1, p1, q1, rfl, rfl, rfl, h1, r1⟩ := trodAll_cons r0
  obtain ⟨v2, vs2, d2, ds2, p2, q2, rfl, rfl, rfl, h2, r2⟩ := trodAll_cons r1
  obtain ⟨v3, vs3, d3, ds3, p3, q3, rfl, rfl, rfl, h3, r3⟩ := trodAll_cons r2
  obtain ⟨rfl, rfl, rfl⟩ := trodAll_nil r3
  obtain rfl : args = #[v0, v1, v2, v3] := by cases args; simp_all
  obtain ⟨rfl, rfl⟩ := trodVars_none hV
  obtain ⟨a0, len0, cap0, rfl⟩ := okWide_slice Try.underlying24 (hval 0 24 v0 rfl rfl)
  have k0 := h0
  have lt0 : ∀ x ∈ p0, x.block < W.heap.size := by obtain ⟨m, hm⟩ := k0; exact DataW.trod_lt m _ _ _ hm
  obtain ⟨z0, w0⟩ : ∃ zs, IsFiles W a0 len0 cap0 zs := by
    obtain ⟨fuel, hf⟩ := h0
    exact open_files hf
  obtain ⟨a1, rfl, rfl, rfl, w1⟩ := open_int Try.underlying3 (hval 1 3 v1 rfl rfl) h1
  obtain ⟨a2, rfl, rfl, rfl, w2⟩ := open_int Try.underlying53 (hval 2 53 v2 rfl rfl) h2
  obtain ⟨a3, rfl, rfl, rfl, w3⟩ := open_int Try.underlying3 (hval 3 3 v3 rfl rfl) h3
  clear hA0 hval0
  refine (walk a0 len0 cap0 z0 a1 w1 a2 w2 a3 w3 W w0).mono fun e W' ⟨he, bel⟩ => ?_
  subst he
  exact ⟨_, rfl, _, _, _, [], _, [], hW', trodAll_mk1 (shut_bool Try.underlying4 _), (trodAll_cons_mk (Below.trod laidOut (by kernel_rfl) (of_decide_eq_true (by kernel_rfl)) k0 bel lt0) (trodAll_cons_mk (shut_int Try.underlying3 w1) (trodAll_cons_mk (shut_int Try.underlying53 w2) (trodAll_cons_mk (shut_int Try.underlying3 w3) trodAll_mk0)))), rfl, bel.frame _, fun h => by cases h⟩

theorem holds : Rows.DirTurnedSaid :=
  OpenClaim.holds_of_wide 7 Try.f7 rfl rfl rfl rfl rfl rfl rfl ⟨rfl, rfl, rfl, rfl, rfl⟩ rfl rfl rfl rfl rfl (by kernel_rfl) Try.func7 (by kernel_rfl)
    (of_decide_eq_true (by kernel_rfl)) (by unfold Func.isWrapper; first | (rw [if_pos (by decide +kernel)]; kernel_rfl) | (rw [if_neg (by decide +kernel)]; exact ⟨rfl, rfl⟩))
    (fun os started H enc _ => lifted os started H enc)

end Go.Proofs.Yteellffkjjllgaa.dirTurned
