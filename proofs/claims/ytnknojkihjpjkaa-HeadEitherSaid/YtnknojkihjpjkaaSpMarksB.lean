/-
  The reference of layer 5: what marks answers of a row. Conditions: as each theorem states them.
-/
import Derived.Test.YtnknojkihjpjkaaSpMarks
namespace Go.Proofs.Ytnknojkihjpjkaa
open Go.RowKit Go.Rc5

theorem make_own {t e : TypeId} {z : Value} {bytes : Nat} (ht : Try.prog.underlying t = some (.slice e)) (hi : (Try.prog.info? e).map (fun i => (i.zero, i.size, i.bytes)) = some (some z, 1, bytes)) (hz : z.cells = #[z])
    (n : Nat) (hb : (bytes : Int) * (n : Int) ≤ 281474976710656) (hn : (n : Int) ≤ 9223372036854775807) (w : World) :
    (Instr.makeSlice t (.int .i64 (n : Int)) (.int .i64 (n : Int))).run Try.prog w = .ok (.slice (some ⟨w.heap.size, 0, none⟩) n n) (w.alloc (.cells (List.replicate n z).toArray e)) := by
  obtain ⟨i, h1, h2, h3, h4⟩ := info_parts hi
  subst h4
  have := run_make (P := Try.prog) w t e i z ht h1 h2 .i64 .i64 (n : Int) (n : Int) (by omega) (by omega) hb hn
  rw [this, h3, hz]
  have e2 : madeCells #[z] n = (List.replicate n z).toArray := by
    apply Array.ext'
    rw [toList_madeCells_one]
  simp [e2]

/-- A row of marks of the call's own. -/
abbrev blT (v : Value) (B : List Bool) (n : Nat) : Thing 0 := rowT 0 4 1 v n (bools B)

set_option maxHeartbeats 2000000 in
theorem rmarks_bad (L : List SpI) (a : Option Addr) (c len : Nat) (size : Int) (w : World) (h : SpansAt w a L) (hl : L.length = len) (hlen : len ≤ 100000) (hb : Bad L size) :
    Calls Try.prog 65 #[.slice a len c, .int .i64 size] w fun e w' => e = .returned (.tuple #[.slice none 0 0, .int .i64 11]) ∧ Below w.heap.size w w' := by
  by_cases b1 : size < 1
  · clear h hb
    go_enter Try.func65, Try.ntmps65
    go_wp2
    go_ret2
    exact ⟨rfl, Below.refl _ _⟩
  by_cases b2 : 8192 < size
  · clear h hb
    go_enter Try.func65, Try.ntmps65
    go_wp2
    go_ret2
    exact ⟨rfl, Below.refl _ _⟩
  have hex : ∃ s ∈ L, insB s size = false := by
    rcases hb with h | h | h
    · exact absurd h b1
    · exact absurd h b2
    · exact h
  have HX := Lib.hid hex
  have HS := Lib.hid (fun W (hb : Below w.heap.size w W) => SpansAt.below h hb)
  have HL := Lib.hid hl
  have HI := Lib.hid (fun s W => rinside_any s size (by omega) (by omega) W)
  clear h hb hex hl
  go_enter Try.func65, Try.ntmps65
  go_wp2
  go_loopw [6] (fun i wr => ∃ k : Nat, i = .int .i64 k ∧ k ≤ len ∧ (∀ j, j < k → insB (L.getD j (0, 0)) size = true) ∧ Below w.heap.size w wr) (fun i _ => (len - intOf i).toNat)
  case atStart => exact ⟨0, rfl, Nat.zero_le _, fun j hj => absurd hj (Nat.not_lt_zero _), Below.refl _ _⟩
  case round =>
    obtain ⟨k, rfl, hk, hall, hB⟩ := hrel
    have HA := Lib.hid hall
    clear hall
    by_cases hlt : k < len
    · have hltI : (k : Int) < len := by omega
      obtain ⟨x, rfl, c0, c1⟩ := HS.out wr hB k (by rw [HL.out]; exact hlt)
      have HC := Lib.hid (HI.out (L.getD k (0, 0)) wr)
      cases hins : insB (L.getD k (0, 0)) size with
      | true =>
        rw [hins] at HC
        have HINS := Lib.hid hins
        clear hins
        generalize L.getD k (0, 0) = s at c0 c1 HC
        obtain ⟨s1, s2⟩ := s
        dsimp only at c0 c1
        go_wp2_with fail
        refine HC.out.mono ?_
        rintro e w1 ⟨rfl, hb1⟩
        have HB := Lib.hid (hB.trans (hb1.mono hB.size))
        clear hb1 HC
        go_wp2
        refine ⟨⟨k + 1, by go_num, by omega, fun j hj => ?_, HB.out⟩, by simp [intOf]; omega⟩
        by_cases e : j = k
        · subst e
          exact HINS.out
        · exact HA.out j (by omega)
      | false =>
        rw [hins] at HC
        clear hins
        generalize L.getD k (0, 0) = s at c0 c1 HC
        obtain ⟨s1, s2⟩ := s
        dsimp only at c0 c1
        go_wp2_with fail
        refine HC.out.mono ?_
        rintro e w1 ⟨rfl, hb1⟩
        have HB := Lib.hid (hB.trans (hb1.mono hB.size))
        clear hb1 HC
        go_wp2
        go_ret2
        exact ⟨rfl, HB.out⟩
    · exfalso
      obtain ⟨s, hs, hf⟩ := HX.out
      obtain ⟨j, hj, e⟩ := List.getElem_of_mem hs
      have hj' : j < k := by have := HL.out; omega
      have := HA.out j hj'
      rw [List.getD_eq_getElem?_getD, List.getElem?_eq_getElem hj, e] at this
      rw [show (some s).getD ((0 : Int), (0 : Int)) = s from rfl, hf] at this
      cases this

/-- What marks answers of a row of which each span is inside. -/
def MarksAt (N : List Sp) (n : Nat) (w : World) (e : Ending) (w' : World) : Prop :=
  (e = .returned (.tuple #[.slice none 0 0, .int .i64 5]) ∧ ¬ N.Pairwise Apart ∧ Below w.heap.size w w') ∨
  ∃ v, e = .returned (.tuple #[v, .int .i64 0]) ∧ N.Pairwise Apart ∧ Fresh (blT v (bl (memB N) n) n) w w'

set_option maxHeartbeats 8000000 in
theorem rmarks_good (L : List SpI) (N : List Sp) (n : Nat) (a : Option Addr) (c len : Nat) (w : World) (h : SpansAt w a L) (hl : L.length = len) (hlen : len ≤ 100000) (hg : Fits L N n) :
    Calls Try.prog 65 #[.slice a len c, .int .i64 n] w (MarksAt N n w) := by
  have hlo := hg.lo
  have hhi := hg.hi
  have hnl : N.length = len := by rw [← hl, hg.eq, castS_length]
  have HI := Lib.hid (fun s W => rinside_any s (n : Int) (by omega) (by omega) W)
  have HS := Lib.hid (fun W (hb : Below w.heap.size w W) => SpansAt.below h hb)
  have HIN : Hid (∀ k, k < len → insB ((castS N).getD k (0, 0)) n = true) := fun k hk => by
    rw [castS_getD, insB_iff]
    have hm : N.getD k (0, 0) ∈ N := by
      rw [List.getD_eq_getElem?_getD, List.getElem?_eq_getElem (by omega)]
      exact List.getElem_mem _
    have h1 := hg.some _ hm
    have h2 := hg.fit _ hm
    dsimp only
    omega
  have HFIT : Hid (∀ k, k < len → 1 ≤ (N.getD k (0, 0)).2 ∧ (N.getD k (0, 0)).1 + (N.getD k (0, 0)).2 ≤ n) := fun k hk => by
    have hm : N.getD k (0, 0) ∈ N := by
      rw [List.getD_eq_getElem?_getD, List.getElem?_eq_getElem (by omega)]
      exact List.getElem_mem _
    exact ⟨hg.some _ hm, hg.fit _ hm⟩
  rw [hg.eq] at HS
  have HNL := Lib.hid hnl
  have hLen : (castS N).length = len := by rw [castS_length]; exact hnl
  have HLL := Lib.hid hLen
  clear h hl hg hnl hLen
  have hI1 : ¬ (n : Int) < 1 := by omega
  have hI2 : ¬ (8192 : Int) < n := by omega
  have hmk := fun W => make_own (t := 100) (e := 4) (z := .bool false) (bytes := 1) Try.underlying100 (by kernel_rfl) rfl n (by omega) (by omega) W
  have hrep : (List.replicate n (Value.bool false)) = bools (bl (memB []) n) := by
    unfold bools bl
    apply List.ext_getElem?
    intro j
    simp only [List.getElem?_replicate, List.getElem?_map]
    by_cases hj : j < n
    · simp [hj, memB_nil]
    · simp [hj]
  rw [hrep] at hmk
  obtain ⟨C, hC⟩ : ∃ C, C = (bools (bl (memB []) n)).toArray := ⟨_, rfl⟩
  rw [← hC] at hmk
  have HC0 := Lib.hid hC
  clear hC hrep
  go_enter Try.func65, Try.ntmps65
  go_wp2
  go_loopw [6] (fun i wr => ∃ k : Nat, i = .int .i64 k ∧ k ≤ len ∧ Below w.heap.size w wr) (fun i _ => (len - intOf i).toNat)
  case atStart => exact ⟨0, rfl, Nat.zero_le _, Below.refl _ _⟩
  case round =>
    obtain ⟨k, rfl, hk, hB⟩ := hrel
    by_cases hlt : k < len
    · have hltI : (k : Int) < len := by omega
      obtain ⟨x, rfl, c0, c1⟩ := HS.out wr hB k (by rw [HLL.out]; exact hlt)
      have HC := Lib.hid (HI.out ((castS N).getD k (0, 0)) wr)
      rw [HIN.out k hlt] at HC
      generalize (castS N).getD k (0, 0) = s at *
      obtain ⟨s1, s2⟩ := s
      dsimp only at c0 c1
      go_wp2_with fail
      refine HC.out.mono ?_
      rintro e w1 ⟨rfl, hb1⟩
      have HB := Lib.hid (hB.trans (hb1.mono hB.size))
      clear hb1 HC
      go_wp2
      exact ⟨⟨k + 1, by go_num, by omega, HB.out⟩, by simp [intOf]; omega⟩
    · have hltI : ¬ (k : Int) < len := by omega
      have hF0 := ((Crew.start w).below hB).made C 4 n (by rw [HC0.out]; simp [bools, bl]) (by omega)
      have e0 : C.toList = bools (bl (memB []) n) := by rw [HC0.out]
      rw [e0] at hF0
      have HF0 := Lib.hid hF0
      clear hF0 e0 hB
      go_wp2
      clear hmk
      generalize wr.heap.size = g at HF0 ⊢
      go_loopw [8, 9] (fun i _ wq => ∃ k : Nat, i = .int .i64 k ∧ k ≤ len ∧ (N.take k).Pairwise Apart ∧ Crew (fun _ => False) w [blT (.slice (some ⟨g, 0, none⟩) n n) (bl (memB (N.take k)) n) n] wq) (fun i _ _ => (len - intOf i).toNat)
      case atStart => exact ⟨0, rfl, Nat.zero_le _, List.Pairwise.nil, HF0.out⟩
      case round =>
        obtain ⟨k, rfl, hk, hpw, hF⟩ := hrel
        have HPW := Lib.hid hpw
        have HF1 := Lib.hid hF
        clear hpw hF
        by_cases hlt2 : k < len
        · have hltI2 : (k : Int) < len := by omega
          obtain ⟨x, rfl, c0, c1⟩ := HS.out wr HF1.out.bel k (by rw [HLL.out]; exact hlt2)
          rw [castS_getD] at c0 c1
          have HT := Lib.hid (take_snoc N k (0, 0) (by rw [HNL.out]; exact hlt2))
          have hfit := HFIT.out k hlt2
          generalize hsk : N.getD k (0, 0) = s at *
          have HSK := Lib.hid hsk
          clear hsk
          obtain ⟨s1, s2⟩ := s
          dsimp only at c0 c1 hfit
          go_wp2
          go_loopw [9] (fun i wq => ∃ y : Nat, i = .int .i64 y ∧ s1 ≤ y ∧ y ≤ s1 + s2 ∧ (∀ z, s1 ≤ z → z < y → memB (N.take k) z = false) ∧ Crew (fun _ => False) w [blT (.slice (some ⟨g, 0, none⟩) n n) (bl (fun z => memB (N.take k) z || inB (s1, y - s1) z) n) n] wq) (fun i _ => ((s1 : Int) + s2 - intOf i).toNat)
          case atStart =>
            refine ⟨s1, rfl, Nat.le_refl _, by omega, fun z h1 h2 => absurd h2 (by omega), ?_⟩
            have e : bl (fun z => memB (N.take k) z || inB (s1, s1 - s1) z) n = bl (memB (N.take k)) n := bl_congr fun z _ => by
              have : inB (s1, s1 - s1) z = false := by
                rw [Bool.eq_false_iff]
                intro e
                have := (inB_iff _ _).1 e
                dsimp only at this
                omega
              rw [this, Bool.or_false]
            rw [e]
            exact HF1.out
          case round =>
            obtain ⟨y, rfl, hy1, hy2, hfree, hF⟩ := hrel
            obtain ⟨x', ex, c0, c1⟩ := HS.out wr hF.bel k (by rw [HLL.out]; exact hlt2)
            cases ex
            rw [castS_getD] at c0 c1
            rw [HSK.out] at c0 c1
            dsimp only at c0 c1
            have HFR := Lib.hid hfree
            have HF2 := Lib.hid hF
            clear hfree hF
            by_cases hlt3 : y < s1 + s2
            · have hltI3 : (y : Int) < (s1 : Int) + s2 := by omega
              have hyn : y < n := by omega
              have hynI : (y : Int) < n := by omega
              have hno : inB (s1, y - s1) y = false := by
                rw [Bool.eq_false_iff]
                intro e
                have := (inB_iff _ _).1 e
                dsimp only at this
                omega
              have HNO := Lib.hid hno
              clear hno
              obtain ⟨d0, d1⟩ := HF2.out.cell 0 rfl (bools_get _ y (by rw [bl_length]; exact hyn))
              rw [bl_get _ _ _ hyn, HNO.out, Bool.or_false] at d0
              cases hm : memB (N.take k) y with
              | true =>
                rw [hm] at d0
                have HM := Lib.hid hm
                clear hm
                go_wp2_with fail
                go_quiet (fail)
                have HBQ := Lib.hid (below_drewN (Below.refl wr.heap.size wr) nq)
                have d0' : (wr.drewN nq).cell? ⟨g, y, none⟩ = some (.bool true) := d0
                clear c0 c1 d0 d1
                generalize wr.drewN nq = wq at *
                go_wp2
                go_ret2
                refine .inl ⟨rfl, fun hp => ?_, HF2.out.bel.trans (HBQ.out.mono HF2.out.bel.size)⟩
                have h2 : (N.take (k + 1)).Pairwise Apart := hp.sublist (List.take_sublist _ _)
                rw [HT.out, List.pairwise_append] at h2
                have h3 := HM.out
                rw [memB, List.any_eq_true] at h3
                obtain ⟨t, ht, hi⟩ := h3
                have h4 := h2.2.2 t ht (s1, s2) (by simp) y hi
                have h5 : inB (s1, s2) y = true := (inB_iff _ _).2 ⟨hy1, hlt3⟩
                rw [h5] at h4
                cases h4
              | false =>
                rw [hm] at d0
                have HM := Lib.hid hm
                clear hm
                have hset := HF2.out.put 0 rfl y (.bool true)
                rw [bools_set, bl_set] at hset
                have e : bl (fun z => if z = y then true else memB (N.take k) z || inB (s1, y - s1) z) n = bl (fun z => memB (N.take k) z || inB (s1, y + 1 - s1) z) n := bl_congr fun z _ => by
                  have e2 : inB (s1, y + 1 - s1) z = (decide (z = y) || inB (s1, y - s1) z) := by
                    rw [Bool.eq_iff_iff, Bool.or_eq_true, inB_iff, inB_iff, decide_eq_true_eq]
                    dsimp only
                    omega
                  rw [e2]
                  by_cases ez : z = y
                  · simp [ez]
                  · simp [ez]
                rw [e] at hset
                clear e
                have HF3 := Lib.hid hset
                clear hset
                go_wp2_with fail
                go_quiet (fail)
                have HBQ : Hid (Crew (fun _ => False) w [blT (.slice (some ⟨g, 0, none⟩) n n) (bl (fun z => memB (N.take k) z || inB (s1, y + 1 - s1) z) n) n] ((wr.drewN nq).setCell ⟨g, y, none⟩ (.bool true))) := HF3.out.below (below_drewN (Below.refl _ _) nq)
                have d0' : (wr.drewN nq).cell? ⟨g, y, none⟩ = some (.bool false) := d0
                have d1' : (wr.drewN nq).frozen? ⟨g, y, none⟩ = false := d1
                clear HF3 HF2 c0 c1 d0 d1
                generalize wr.drewN nq = wq at *
                go_wp2
                refine ⟨⟨y + 1, by go_num, by omega, by omega, fun z h1 h2 => ?_, HBQ.out⟩, by simp [intOf]; omega⟩
                by_cases e : z = y
                · subst e
                  exact HM.out
                · exact HFR.out z h1 (by omega)
            · have hltI3 : ¬ (y : Int) < (s1 : Int) + s2 := by omega
              have hye : y - s1 = s2 := by omega
              have HYE := Lib.hid hye
              clear hye
              go_wp2_with fail
              go_quiet (fail)
              have HF3 := Lib.hid (HF2.out.below (below_drewN (Below.refl wr.heap.size wr) nq))
              clear HF2 c0 c1
              generalize wr.drewN nq = wq at *
              go_wp2
              refine ⟨⟨k + 1, by go_num, by omega, ?_, ?_⟩, by simp [intOf]; omega⟩
              · rw [HT.out, List.pairwise_append]
                refine ⟨HPW.out, List.pairwise_singleton _ _, fun t ht u hu z hz => ?_⟩
                rw [List.mem_singleton] at hu
                subst hu
                rw [Bool.eq_false_iff]
                intro e
                have h1 := (inB_iff _ _).1 e
                dsimp only at h1
                have h2 := HFR.out z h1.1 (by omega)
                rw [Bool.eq_false_iff] at h2
                exact h2 (by rw [memB, List.any_eq_true]; exact ⟨t, ht, hz⟩)
              · have e : bl (memB (N.take (k + 1))) n = bl (fun z => memB (N.take k) z || inB (s1, y - s1) z) n := bl_congr fun z _ => by
                  rw [HT.out, memB_append, HYE.out]
                  simp [memB]
                rw [e]
                exact HF3.out
        · have hltI2 : ¬ (k : Int) < len := by omega
          have hkl : N.take k = N := List.take_of_length_le (by have := HNL.out; omega)
          rw [hkl] at HPW HF1
          clear hkl
          go_wp2
          go_ret2
          exact .inr ⟨_, rfl, HPW.out, HF1.out.fresh⟩

end Go.Proofs.Ytnknojkihjpjkaa
