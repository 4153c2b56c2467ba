/-
  DevLast: for every input the law answers true: what is read is what was written last, or noughts. Conditions: none.
-/
import Derived.Test.YtchbmchgdhmmmaaDvShown
import Derived.Test.YtchbmchgdhmmmaaDvSmall
import Derived.Test.YtchbmchgdhmmmaaDvMath
import Derived.Test.YtchbmchgdhmmmaaTail
namespace Go.Rc4

/-- What was written last, sector by sector: V the numbers, B whether one was written. -/
structure Last (d : DS) (V : List Int) (B : List Bool) : Prop where
  vl : V.length = 6
  bl : B.length = 6
  eq : ∀ j, j < 6 → d.s.getD j ⟨#[]⟩ = if B.getD j false then sec (V.getD j 0) else nought

theorem Last.new : Last (DS.new 6) (List.replicate 6 0) (List.replicate 6 false) :=
  ⟨rfl, rfl, fun j hj => by
    have : j = 0 ∨ j = 1 ∨ j = 2 ∨ j = 3 ∨ j = 4 ∨ j = 5 := by omega
    rcases this with rfl | rfl | rfl | rfl | rfl | rfl <;> rfl⟩

theorem getD_set {α : Type} (l : List α) (i j : Nat) (x z : α) (hi : i < l.length) : (l.set i x).getD j z = if j = i then x else l.getD j z := by
  simp only [List.getD_eq_getElem?_getD, List.getElem?_set]
  by_cases e : j = i
  · subst e; simp [hi]
  · have e' : ¬ i = j := fun h => e h.symm
    simp [e, e']

theorem Last.set {d : DS} {V : List Int} {B : List Bool} (h : Last d V B) (hf : Free 6 d) (i : Nat) (hi : i < 6) (n : Int) (f : List ByteArray) (p : List (Nat × ByteArray)) : Last ⟨d.s.set i (sec n), f, p, -1, false⟩ (V.set i n) (B.set i true) := by
  refine ⟨by simp [h.vl], by simp [h.bl], fun j hj => ?_⟩
  show (d.s.set i (sec n)).getD j ⟨#[]⟩ = _
  rw [getD_set d.s _ _ _ _ (by rw [hf.len]; exact hi), getD_set V _ _ _ _ (by rw [h.vl]; exact hi), getD_set B _ _ _ _ (by rw [h.bl]; exact hi), h.eq j hj]
  by_cases e : j = i
  · simp [e]
  · simp [e]

end Go.Rc4
namespace Go.Proofs.Ytchbmchgdhmmmaa.devLast
open Go.ChangeShapes Go.WideShapes Go.ChangeAt Go.RowKit Go.Rc4
open Go.ChangeMaps (open_string shut_string)

theorem get_ints (V : List Int) (j : Nat) (h : j < V.length) : (ints V)[j]? = some (.int .i64 (V.getD j 0)) := by
  simp [ints, List.getElem?_map, List.getElem?_eq_getElem h, List.getD_eq_getElem?_getD]

def bools (B : List Bool) : List Value := B.map Value.bool

theorem get_bools (B : List Bool) (j : Nat) (h : j < B.length) : (bools B)[j]? = some (.bool (B.getD j false)) := by
  simp [bools, List.getElem?_map, List.getElem?_eq_getElem h, List.getD_eq_getElem?_getD]

theorem set_ints (V : List Int) (j : Nat) (n : Int) : (ints V).set j (.int .i64 n) = ints (V.set j n) := by simp [ints, List.map_set]
theorem set_bools (B : List Bool) (j : Nat) (b : Bool) : (bools B).set j (.bool b) = bools (B.set j b) := by simp [bools, List.map_set]

theorem get_rep (n m : Nat) (h : m < n) (u : Value) : (List.replicate n u)[m]? = some u := by rw [List.getElem?_replicate, if_pos h]

/-- The device and the two rows of the law. -/
abbrev Lot (base b g1 g2 : Nat) (d : DS) (V : List Int) (B : List Bool) : List (Thing base) :=
  [devT base b d, rowT base 3 1 (.slice (some ⟨g1, 0, none⟩) 6 6) 6 (ints V), rowT base 4 1 (.slice (some ⟨g2, 0, none⟩) 6 6) 6 (bools B)]

set_option maxHeartbeats 4000000 in
theorem walk (a0 : Option Addr) (len0 cap0 : Nat) (z0 : Nat → AR) (a1 : Int) (_ : (Lit.int .i64 a1).wf = true) (w : World) (h0 : IsActs w a0 len0 z0) :
    Calls Try.prog 6 #[.slice a0 len0 cap0, .int .i64 a1] w fun e w' => e = .returned (.bool true) ∧ Below w.heap.size w w' := by
  have HA := Lib.hid (fun W (hb : Below w.heap.size w W) => IsActs.below h0 hb)
  have HSH := Lib.hid (shown_any w)
  clear h0
  by_cases hsm : small len0 z0 = true
  · have hlen := small_len hsm
    have hmk1 : ∀ W, (Instr.makeSlice 33 (.int .i64 6) (.int .i64 6)).run Try.prog W = .ok (.slice (some ⟨W.heap.size, 0, none⟩) 6 6) (W.alloc (.cells (ints (List.replicate 6 0)).toArray 3)) := fun W => make_row (t := 33) (e := 3) (z := .int .i64 0) (bytes := 8) Try.underlying33 (by kernel_rfl) rfl 6 (by omega) (by omega) W
    have hmk2 : ∀ W, (Instr.makeSlice 50 (.int .i64 6) (.int .i64 6)).run Try.prog W = .ok (.slice (some ⟨W.heap.size, 0, none⟩) 6 6) (W.alloc (.cells (bools (List.replicate 6 false)).toArray 4)) := fun W => make_row (t := 50) (e := 4) (z := .bool false) (bytes := 1) Try.underlying50 (by kernel_rfl) rfl 6 (by omega) (by omega) W
    have hmk3 : ∀ W, (Instr.makeSlice 51 (.int .i64 64) (.int .i64 64)).run Try.prog W = .ok (.slice (some ⟨W.heap.size, 0, none⟩) 64 64) (W.alloc (.cells (List.replicate 64 (.int .u8 0)).toArray 5)) := fun W => make_row (t := 51) (e := 5) (z := .int .u8 0) (bytes := 1) Try.underlying51 (by kernel_rfl) rfl 64 (by omega) (by omega) W
    obtain ⟨C1, hC1⟩ : ∃ C, C = (ints (List.replicate 6 0)).toArray := ⟨_, rfl⟩
    obtain ⟨C2, hC2⟩ : ∃ C, C = (bools (List.replicate 6 false)).toArray := ⟨_, rfl⟩
    obtain ⟨C3, hC3⟩ : ∃ C, C = (List.replicate 64 (Value.int .u8 0)).toArray := ⟨_, rfl⟩
    rw [← hC1] at hmk1
    rw [← hC2] at hmk2
    rw [← hC3] at hmk3
    have HC1 := Lib.hid hC1
    have HC2 := Lib.hid hC2
    have HC3 := Lib.hid hC3
    clear hC1 hC2 hC3
    go_enter Try.func6, Try.ntmps6
    go_wp2_with fail
    refine HSH.out.mono ?_
    rintro e wA ⟨rfl, hbA⟩
    have HF := Lib.hid ((Fleet.start w).below hbA)
    have HI := Lib.hid (HA.out _ hbA)
    clear hbA
    go_wp2_with fail
    have C := small_any a0 len0 cap0 z0 wA HI.out
    rw [hsm] at C
    refine C.mono ?_
    clear C
    rintro e wB ⟨rfl, rfl⟩
    go_wp2_with fail
    refine (fleet_new HF.out 6 (by omega) (by omega)).mono ?_
    rintro e wB ⟨b, rfl, hF⟩
    have hF1 := hF.made C1 3 6 (by rw [HC1.out]; rfl) (by omega)
    have hF2 := hF1.made C2 4 6 (by rw [HC2.out]; rfl) (by omega)
    have e1 : C1.toList = ints (List.replicate 6 0) := by rw [HC1.out]
    have e2 : C2.toList = bools (List.replicate 6 false) := by rw [HC2.out]
    rw [show (wB.alloc (.cells C1 3)).heap.size = wB.heap.size + 1 by simp, e1, e2] at hF2
    clear e1 e2
    have HF2 := Lib.hid hF2
    clear hF hF1 hF2
    go_wp2
    go_loopw [11, 12, 13] (fun i _ _ wr => ∃ (k : Nat) (d : DS) (V : List Int) (B : List Bool), i = .int .i64 k ∧ k ≤ len0 ∧ Free 6 d ∧ d.p.length ≤ k ∧ Last d V B ∧ Fleet w.heap.size w (Lot w.heap.size b wB.heap.size (wB.heap.size + 1) d V B) wr) (fun i _ _ _ => (len0 - intOf i).toNat)
    case atStart => exact ⟨0, _, _, _, rfl, Nat.zero_le _, Free.new 6, by simp [DS.new], Last.new, HF2.out⟩
    case round =>
      clear hmk1 hmk2
      obtain ⟨k, d, V, B, rfl, hk, hfr, hpn, hla, hF⟩ := hrel
      have HF3 := Lib.hid hF
      have HFR := Lib.hid hfr
      have HLA := Lib.hid hla
      clear hF hfr hla
      generalize hg1 : wB.heap.size = g1 at *
      by_cases hlt : k < len0
      · have hltI : (k : Int) < len0 := by omega
        obtain ⟨x, rfl, c⟩ := HA.out w (Below.refl _ _) k hlt
        have HQ1 := Lib.hid (fun W (hb : Below w.heap.size w W) => (hb.cell (row_block c.c1)).trans c.c1)
        have HQ2 := Lib.hid (fun W (hb : Below w.heap.size w W) => (hb.cell (row_block c.c2)).trans c.c2)
        have HPA := Lib.hid (pick_lit (z0 k).at_ c.i1 6 6 rfl (by omega) (by omega))
        have HSE := Lib.hid (sector_any (z0 k).n)
        have hi6 := pk_lt (z0 k).at_ 6 (by omega)
        have HW := Lib.hid (HFR.out.wr hi6 (sec_size (z0 k).n))
        have HL2 := Lib.hid (fun f p => HLA.out.set HFR.out _ hi6 (z0 k).n f p)
        clear c
        generalize (z0 k).at_ = r1 at *
        generalize (z0 k).n = r2 at *
        generalize pk r1 6 = at6 at *
        have HS6 : Hid ((d.s.set at6 (sec r2)).length = 6) := by
          rw [List.length_set]
          exact HFR.out.len
        have HN1 := Lib.hid (get_ints V at6 (by rw [HLA.out.vl]; exact hi6))
        have HN2 := Lib.hid (get_bools B at6 (by rw [HLA.out.bl]; exact hi6))
        generalize sec r2 = t at *
        generalize d.s.set at6 t = s2 at *
        generalize V.getD at6 0 = vo at *
        generalize B.getD at6 false = bo at *
        have hi6I : (at6 : Int) < 6 := by omega
        have q1 := HQ1.out wr HF3.out.bel
        go_wp2_with fail
        refine (HPA.out _).mono ?_
        rintro e w2 ⟨rfl, rfl⟩
        have q2 := HQ2.out wr HF3.out.bel
        go_wp2_with fail
        refine (HSE.out _).mono ?_
        rintro e w2 ⟨rfl, hb2⟩
        have HF4 := Lib.hid (HF3.out.below hb2)
        clear hb2
        go_wp2_with fail
        have C := fleet_write HF4.out 0 rfl (by omega) at6 t
        rw [HW.out] at C
        refine C.mono ?_
        clear C
        rintro e w3 ⟨rfl, hF⟩
        have q3 := HQ2.out w3 hF.bel
        obtain ⟨u1, v1⟩ := hF.cell 1 rfl HN1.out
        obtain ⟨u2, v2⟩ := hF.cell 2 rfl HN2.out
        have hF6 := (hF.put 1 rfl at6 (.int .i64 r2)).put 2 rfl at6 (.bool true)
        rw [set_ints, set_bools] at hF6
        have HF6 : Hid (Fleet w.heap.size w (Lot w.heap.size b g1 (g1 + 1) ⟨s2, d.f, d.p ++ [(at6, t)], -1, false⟩ (V.set at6 r2) (B.set at6 true)) ((w3.setCell ⟨g1, at6, none⟩ (.int .i64 r2)).setCell ⟨g1 + 1, at6, none⟩ (.bool true))) := hF6
        clear hF hF6
        by_cases hat : (k : Int) = a1
        · subst hat
          have hfr2 : Free 6 ⟨s2, d.f, d.p ++ [(at6, t)], -1, false⟩ := ⟨HS6.out, rfl, rfl⟩
          have CF := fleet_flush HF6.out 0 rfl
          rw [hfr2.fl] at CF
          have HCF := Lib.hid CF
          clear CF hfr2
          go_wp2_with (first | (go_at_call 18; (with_reducible refine HCF.out.mono ?_); rintro e w5 ⟨rfl, hF5⟩; have HF5 := Lib.hid hF5; clear hF5))
          exact ⟨⟨k + 1, _, _, _, by go_num, by omega, ⟨HS6.out, rfl, rfl⟩, by simp, HL2.out _ _, HF5.out⟩, by simp [intOf]; omega⟩
        · have hatB : ((k : Int) == a1) = false := by simpa using hat
          clear hat
          go_wp2
          exact ⟨⟨k + 1, _, _, _, by go_num, by omega, ⟨HS6.out, rfl, rfl⟩, by simp; omega, HL2.out _ _, HF6.out⟩, by simp [intOf]; omega⟩
      · have hltI : ¬ (k : Int) < len0 := by omega
        have hB3 := HF3.out.made C3 5 64 (by rw [HC3.out]; rfl) (by omega)
        have e3 : C3.toList = List.replicate 64 (Value.int .u8 0) := by rw [HC3.out]
        rw [e3] at hB3
        have HF4 := Lib.hid hB3
        clear hB3 e3
        go_wp2
        clear hmk3
        generalize hg3 : wr.heap.size = g3 at HF4 ⊢
        clear hg3
        go_loopw [15, 16, 17] (fun i _ _ wq => ∃ j : Nat, i = .int .i64 j ∧ j ≤ 6 ∧ Fleet w.heap.size w (Lot w.heap.size b g1 (g1 + 1) d V B ++ [rowT w.heap.size 5 1 (.slice (some ⟨g3, 0, none⟩) 64 64) 64 (List.replicate 64 (.int .u8 0))]) wq) (fun i _ _ _ => (6 - intOf i).toNat)
        case atStart => exact ⟨0, rfl, by omega, HF4.out⟩
        case round =>
          obtain ⟨j, rfl, hj, hF⟩ := hrel
          by_cases hj6 : j < 6
          · have hj6I : (j : Int) < 6 := by omega
            have CR := fleet_read hF 0 rfl j
            rw [HFR.out.rd hj6, HLA.out.eq j hj6] at CR
            obtain ⟨u1, _⟩ := hF.cell 1 rfl (get_ints V j (by rw [HLA.out.vl]; exact hj6))
            obtain ⟨u2, _⟩ := hF.cell 2 rfl (get_bools B j (by rw [HLA.out.bl]; exact hj6))
            have hcv := back_of (w := wr) (b := g3) (cap := 64) (List.replicate 64 (0 : UInt8)) (fun m hm => (hF.cell 3 rfl (j := m) (u := .int .u8 0) (get_rep 64 m (by rw [List.length_replicate] at hm; exact hm) _)).1.trans (by rw [List.getElem_replicate]; rfl))
            rw [List.length_replicate, show ByteArray.mk (List.replicate 64 (0 : UInt8)).toArray = nought from rfl] at hcv
            have HF5 := Lib.hid hF
            have HSE := Lib.hid (sector_any (V.getD j 0))
            clear hF
            generalize V.getD j 0 = vo at *
            cases hB : B.getD j false with
            | true =>
              rw [hB] at CR u2
              rw [if_pos rfl] at CR
              have HCR := Lib.hid CR
              have HB := Lib.hid hB
              clear CR hB hcv
              generalize sec vo = t at *
              go_wp2_with (first | (go_at_call 20; (with_reducible refine HCR.out.mono ?_); rintro e w5 ⟨rfl, rfl⟩) | (go_at_call 17; (with_reducible refine (HSE.out _).mono ?_); rintro e w6 ⟨rfl, hb6⟩; have HF6 := Lib.hid (HF5.out.below hb6); obtain ⟨u3, _⟩ := HF6.out.cell 2 rfl (get_bools B j (by rw [HLA.out.bl]; exact hj6)); rw [HB.out] at u3; clear hb6))
              exact ⟨⟨j + 1, by go_num, by omega, HF6.out⟩, by simp [intOf]; omega⟩
            | false =>
              rw [hB] at CR u2
              rw [if_neg (by decide)] at CR
              have HCR := Lib.hid CR
              clear CR hB
              generalize nought = t at *
              go_wp2_with (first | (go_at_call 20; (with_reducible refine HCR.out.mono ?_); rintro e w5 ⟨rfl, rfl⟩))
              exact ⟨⟨j + 1, by go_num, by omega, HF5.out⟩, by simp [intOf]; omega⟩
          · have hj6I : ¬ (j : Int) < 6 := by omega
            have HF5 := Lib.hid hF
            clear hF
            go_wp2
            go_ret
            exact ⟨rfl, HF5.out.bel⟩
  · have hsm' : small len0 z0 = false := by simpa using hsm
    have HSM := Lib.hid (fun W (hb : Below w.heap.size w W) => small_any a0 len0 cap0 z0 W (HA.out W hb))
    rw [hsm'] at HSM
    go_enter Try.func6, Try.ntmps6
    go_wp2_with (first | (go_at_call 8; (with_reducible refine HSH.out.mono ?_); rintro e w1 ⟨rfl, hb1⟩) | (go_at_call 9; (with_reducible refine (HSM.out _ hb1).mono ?_); rintro e w2 ⟨rfl, rfl⟩))
    go_ret
    exact ⟨rfl, hb1⟩

set_option maxRecDepth 100000 in
theorem lifted (os : Os) (started : os.Started) (H : Type) (enc : TypeId × Value → H) :
    ReturnsInHanded {} Try.checked os 6 .any (Rows.devLastSpec.pre6 enc Try.prog Try.f6 Rows.devLastRow.domain false) (Rows.devLastSpec.post enc Try.prog Try.f6 false true false false) := by
  refine returnsInHanded_of_change (C := Try.checked) own started (by kernel_rfl) Try.func6
    (ChangeSpec.witness6 (enc := enc) (C := Try.checked) false ⟨#[], #[.slice none 0 0, .int .i64 0], []⟩ 8 (by kernel_rfl) (by kernel_rfl) (by kernel_rfl) (by kernel_rfl)) ?_
  intro W base args ds gs before hval0 hW _ _
  have hval : ∀ (j : Nat) t v, Try.f6.params[j]? = some t → args[j]? = some v → Value.okWide Try.prog W .any base t v := hval0
  have hW' := hW
  obtain ⟨p, q, hA0, hV, rfl, hfz, hnd⟩ := hW
  have hA : DataW.TrodAll enc Try.prog W 0 (fun _ => true) true Try.f6.params.toList args.toList ds p := hA0
  rw [Try.params6] at hA hval
  obtain ⟨v0, vs0, d0, ds0, p0, q0, hargs, rfl, rfl, h0, r0⟩ := trodAll_cons hA
  obtain ⟨v1, vs1, d1, ds1, p1, q1, rfl, rfl, rfl, h1, r1⟩ := trodAll_cons r0
  obtain ⟨rfl, rfl, rfl⟩ := trodAll_nil r1
  obtain rfl : args = #[v0, v1] := by cases args; simp_all
  obtain ⟨rfl, rfl⟩ := trodVars_none hV
  obtain ⟨a0, len0, cap0, rfl⟩ := okWide_slice Try.underlying22 (hval 0 22 v0 rfl rfl)
  have k0 := h0
  have lt0 : ∀ x ∈ p0, x.block < W.heap.size := by obtain ⟨m, hm⟩ := k0; exact DataW.trod_lt m _ _ _ hm
  obtain ⟨z0, w0⟩ : ∃ zs, IsActs W a0 len0 zs := by
    obtain ⟨fuel, hf⟩ := h0
    exact open_acts hf
  obtain ⟨a1, rfl, rfl, rfl, w1⟩ := open_int Try.underlying3 (hval 1 3 v1 rfl rfl) h1
  clear hA0 hval0
  refine (walk a0 len0 cap0 z0 a1 w1 W w0).mono fun e W' ⟨he, bel⟩ => ?_
  subst he
  exact ⟨_, rfl, _, _, _, [], _, [], hW', trodAll_mk1 (shut_bool Try.underlying4 _), (trodAll_cons_mk (Below.trod laidOut (by kernel_rfl) (of_decide_eq_true (by kernel_rfl)) k0 bel lt0) (trodAll_cons_mk (shut_int Try.underlying3 w1) trodAll_mk0)), rfl, bel.frame _, fun h => by cases h⟩

theorem holds : Rows.DevLastSaid :=
  OpenClaim.holds_of_wide 6 Try.f6 rfl rfl rfl rfl rfl rfl rfl ⟨rfl, rfl, rfl, rfl, rfl⟩ rfl rfl rfl rfl rfl (by kernel_rfl) Try.func6 (by kernel_rfl)
    (of_decide_eq_true (by kernel_rfl)) (by unfold Func.isWrapper; first | (rw [if_pos (by decide +kernel)]; kernel_rfl) | (rw [if_neg (by decide +kernel)]; exact ⟨rfl, rfl⟩))
    (fun os started H enc _ => lifted os started H enc)

end Go.Proofs.Ytchbmchgdhmmmaa.devLast
