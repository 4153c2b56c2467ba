/-
  The reference's device: what Power makes of it, and what New makes. Conditions: as each theorem states them.
-/
import Derived.Test.YtchbmchgdhmmmaaDvRefB
import Derived.Deep.RegionHeld3
namespace Go.Proofs.Ytchbmchgdhmmmaa
open Go.RowKit Go.Rc4

/-- The parts, while the sectors of the last flush are written. -/
abbrev mid (b : Nat) (d : DS) (vs : Value) (gf cf : Nat) (vp : Value) (F : List ByteArray) : List (Thing 0) :=
  [blkT b #[vs, .slice (some ⟨gf, 0, none⟩) d.f.length cf, vp, .int .i64 d.left, .bool d.down] 61, rowT 0 9 1 vs d.s.length (strs d.s), rowT 0 9 1 (.slice (some ⟨gf, 0, none⟩) d.f.length cf) d.f.length (strs F), rowT 0 81 2 vp d.p.length (flat d.p)]

set_option maxHeartbeats 4000000 in
theorem rpower_any {O : Nat → Prop} {b : Nat} {d : DS} {vs vf vp : Value} {w : World} (h : Crew O w (parts b d vs vf vp) w) (ka : Option Addr) (kn kc : Nat) (ks : List Int) (hkn : ks.length = kn)
    (hks : ∀ w', Moved O w w' → ∀ i, i < kn → ∃ x, ka = some x ∧ w'.cell? (x.add i) = some (.int .i64 (ks.getD i 0))) (hp : d.p.length ≤ 100000) (hs : 0 < d.s.length) (hs2 : d.s.length ≤ 8192) (hf : d.f.length = d.s.length) (hat : ∀ k, k < d.p.length → (d.p.getD k (0, ⟨#[]⟩)).1 < d.s.length) :
    Calls Try.prog 29 #[.pointer (some ⟨b, 0, none⟩), .slice ka kn kc] w fun e w' => e = .returned (.tuple #[]) ∧ ∃ vs' vp', Crew O w (parts b (d.pw ks) vs' vf vp') w' := by
  obtain ⟨ap, cp, rfl⟩ := h.slice 3 rfl
  obtain ⟨gf, cf, rfl⟩ := h.held 2 rfl (by omega)
  have H := Lib.hid h
  have HAT := Lib.hid hat
  have HF := Lib.hid hf
  have HK := Lib.hid hks
  have HL := Lib.hid hkn
  clear h hat hf hks hkn
  go_enter Try.func29, Try.ntmps29
  go_wp2
  go_loopw [4] (fun i wr => ∃ k : Nat, i = .int .i64 k ∧ k ≤ d.p.length ∧ k ≤ kn ∧ Crew O w (mid b d vs gf cf (.slice ap d.p.length cp) (puts d.f (kept (d.p.take k) ks))) wr) (fun i _ => (d.p.length - intOf i).toNat)
  case atStart => exact ⟨0, rfl, Nat.zero_le _, Nat.zero_le _, H.out⟩
  case round =>
    obtain ⟨k, rfl, hk, hkk, hC⟩ := hrel
    have HC := Lib.hid hC
    have z1 := (hC.at 0 rfl (j := 1) rfl).1
    have z2 := (hC.at 0 rfl (j := 2) rfl).1
    by_cases hin : k < d.p.length ∧ k < kn
    · obtain ⟨hlt, hltk⟩ := hin
      have hltI : (k : Int) < d.p.length := by omega
      have hltkI : (k : Int) < kn := by omega
      obtain ⟨gp, cp', e⟩ := hC.held 3 rfl (by show 0 < d.p.length; omega)
      simp only [Value.slice.injEq] at e
      obtain ⟨rfl, _, rfl⟩ := e
      obtain ⟨hx0, hx1⟩ := flat_at d.p k hlt
      have hc0 := (hC.cell 3 rfl hx0).1
      have hc1 := (hC.cell 3 rfl hx1).1
      have hj := HAT.out k hlt
      have hkt := kept_take d.p ks k hlt
      obtain ⟨x, rfl, hcell⟩ := HK.out wr hC.mv k hltk
      generalize d.p.getD k (0, ⟨#[]⟩) = y at *
      obtain ⟨j, t⟩ := y
      dsimp only at hc0 hc1 hj
      have hjf : j < (puts d.f (kept (d.p.take k) ks)).length := by rw [puts_length, HF.out]; exact hj
      obtain ⟨hg0, hg1⟩ := hC.cell 2 rfl (strs_get _ j hjf)
      have hjI : (j : Int) < d.f.length := by rw [HF.out]; omega
      have l0 := hC.lt 0 rfl
      have l1 : gf < wr.heap.size := row_block hg0
      have l2 : gp < wr.heap.size := row_block hc0
      have l3 := row_block hcell
      rw [HL.out] at hkt
      clear hx0 hx1 hj
      generalize ks.getD k 0 = y at *
      by_cases hy : y % 2 = 0
      · have hyt : y.tmod 2 = 0 := (tmod2' y).2 hy
        have hyb : (y.tmod 2 != 0) = false := by simpa using hyt
        rw [if_neg (fun h => h.2 hy), List.append_nil] at hkt
        have HKT := Lib.hid hkt
        clear hkt hC hy hyt
        go_wp2
        refine ⟨⟨k + 1, by go_num, by omega, by omega, ?_⟩, by simp [intOf]; omega⟩
        rw [HKT.out]
        exact HC.out
      · have hyt : ¬ y.tmod 2 = 0 := fun h => hy ((tmod2' y).1 h)
        have hyb : (y.tmod 2 != 0) = true := by simpa using hyt
        rw [if_pos ⟨hltk, hy⟩] at hkt
        have HKT := Lib.hid hkt
        clear hkt hC hy hyt
        go_wp2
        go_region
        go_wp2
        refine ⟨⟨k + 1, by go_num, by omega, by omega, ?_⟩, by simp [intOf]; omega⟩
        rw [HKT.out, puts_append]
        have hp := HC.out.put 2 rfl j (.string t)
        rw [strs_set] at hp
        exact hp.below (Below.refl _ _).drew
    · have HKE : Hid (kept (d.p.take k) ks = kept d.p ks) := by
        by_cases e : k = d.p.length
        · rw [e, List.take_of_length_le (Nat.le_refl _)]
          exact rfl
        · have e2 : k = ks.length := by have := HL.out; omega
          rw [e2]
          exact kept_len _ _
      rw [HKE.out] at HC
      have HFL : Hid ((puts d.f (kept d.p ks)).length = d.f.length) := puts_length _ _
      have HPW : Hid (d.pw ks = ⟨puts d.f (kept d.p ks), puts d.f (kept d.p ks), [], -1, false⟩) := rfl
      have z0 := (hC.at 0 rfl (j := 0) rfl).1
      have lb := hC.lt 0 rfl
      clear hC
      generalize puts d.f (kept d.p ks) = F at *
      have HE := Lib.hid (HC.out.empty 9 1)
      by_cases hlt : k < d.p.length
      · have hltI : (k : Int) < d.p.length := by omega
        have hltkI : ¬ (k : Int) < kn := by omega
        go_wp2_with (at_builtin; refine wpList_append_crew HE.out 4 rfl rfl (.tmp 48) (.tmp 52) 54 rfl (.string ⟨#[]⟩) 16 Try.underlying54 infoS rfl (by decide) rfl ⟨gf, 0, none⟩ d.f.length cf (strs F) rfl (by rw [strs_length]; have := HFL.out; omega) ?c1 (strs_one _) ?b1 ?b2 ?next)
        case c1 =>
          intro j u hu
          exact (HE.out.cell 2 rfl hu).1
        case b1 => unfold maxLen; have := HF.out; omega
        case b2 => have := HF.out; omega
        case next =>
          intro v' w2 hF
          obtain ⟨g', c', rfl⟩ := hF.held 4 rfl (by have := HF.out; omega)
          obtain ⟨y0, x0⟩ := hF.at 0 rfl (j := 0) rfl
          have hF2 := (hF.set 0 rfl 0 (.slice (some ⟨g', 0, none⟩) d.f.length c'))
          have hF3 := Crew.swap (l := [_, _, _, _]) hF2 1 (by simp)
          have hF4 := Crew.swap (l := [_, _, _, _]) ((hF3.set 0 rfl 2 (.slice none 0 0)).nil 81 2) 3 (by simp)
          have hF5 := (hF4.set 0 rfl 3 (.int .i64 (-1))).set 0 rfl 4 (.bool false)
          have HF5 := Lib.hid hF5
          have x1 := (hF.at 0 rfl (j := 1) rfl)
          obtain ⟨y2, x2⟩ := (hF.at 0 rfl (j := 2) rfl)
          obtain ⟨y3, x3⟩ := (hF.at 0 rfl (j := 3) rfl)
          obtain ⟨y4, x4⟩ := (hF.at 0 rfl (j := 4) rfl)
          clear hF hF2 hF3 hF4 hF5 x1
          go_wp2
          go_end0
          refine ⟨rfl, .slice (some ⟨g', 0, none⟩) d.f.length c', .slice none 0 0, ?_⟩
          rw [HPW.out]
          show Crew O w [_, rowT 0 9 1 _ F.length _, rowT 0 9 1 _ F.length _, _] _
          rw [HFL.out]
          exact HF5.out
      · have hltI : ¬ (k : Int) < d.p.length := by omega
        go_wp2_with (at_builtin; refine wpList_append_crew HE.out 4 rfl rfl (.tmp 48) (.tmp 52) 54 rfl (.string ⟨#[]⟩) 16 Try.underlying54 infoS rfl (by decide) rfl ⟨gf, 0, none⟩ d.f.length cf (strs F) rfl (by rw [strs_length]; have := HFL.out; omega) ?c1 (strs_one _) ?b1 ?b2 ?next)
        case c1 =>
          intro j u hu
          exact (HE.out.cell 2 rfl hu).1
        case b1 => unfold maxLen; have := HF.out; omega
        case b2 => have := HF.out; omega
        case next =>
          intro v' w2 hF
          obtain ⟨g', c', rfl⟩ := hF.held 4 rfl (by have := HF.out; omega)
          obtain ⟨y0, x0⟩ := hF.at 0 rfl (j := 0) rfl
          have hF2 := (hF.set 0 rfl 0 (.slice (some ⟨g', 0, none⟩) d.f.length c'))
          have hF3 := Crew.swap (l := [_, _, _, _]) hF2 1 (by simp)
          have hF4 := Crew.swap (l := [_, _, _, _]) ((hF3.set 0 rfl 2 (.slice none 0 0)).nil 81 2) 3 (by simp)
          have hF5 := (hF4.set 0 rfl 3 (.int .i64 (-1))).set 0 rfl 4 (.bool false)
          have HF5 := Lib.hid hF5
          have x1 := (hF.at 0 rfl (j := 1) rfl)
          obtain ⟨y2, x2⟩ := (hF.at 0 rfl (j := 2) rfl)
          obtain ⟨y3, x3⟩ := (hF.at 0 rfl (j := 3) rfl)
          obtain ⟨y4, x4⟩ := (hF.at 0 rfl (j := 4) rfl)
          clear hF hF2 hF3 hF4 hF5 x1
          go_wp2
          go_end0
          refine ⟨rfl, .slice (some ⟨g', 0, none⟩) d.f.length c', .slice none 0 0, ?_⟩
          rw [HPW.out]
          show Crew O w [_, rowT 0 9 1 _ F.length _, rowT 0 9 1 _ F.length _, _] _
          rw [HFL.out]
          exact HF5.out

end Go.Proofs.Ytchbmchgdhmmmaa
