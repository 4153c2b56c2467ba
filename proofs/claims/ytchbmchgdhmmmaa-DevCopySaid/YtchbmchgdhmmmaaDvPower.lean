/-
  What Power makes of a device. Conditions: the device lies in memory as DvBase says; the numbers of what is kept are none of its own cells.
-/
import Derived.Test.YtchbmchgdhmmmaaDvFlush
import Derived.Deep.RegionLaw
import Derived.Laws.CopyRow
namespace Go.Proofs.Ytchbmchgdhmmmaa
open Go.RowKit Go.Rc4

/-- 'copy' of one row of texts onto another one, as long, of the call's own. -/
theorem run_copy_strs {w : World} {base g cap h cap' n : Nat} {xs : List Value} {l : List ByteArray} (ty : TypeId) (hd : w.ownsRow base 9 1 (.slice (some ⟨g, 0, none⟩) n cap) n xs) (hs : w.ownsRow base 9 1 (.slice (some ⟨h, 0, none⟩) n cap') n (strs l)) :
    ∃ C, (Builtin.copy_ #[54, 54] ty #[.slice (some ⟨g, 0, none⟩) n cap, .slice (some ⟨h, 0, none⟩) n cap']).run Try.prog w = .ok (goInt n) (w.setRow g C) ∧
      (w.setRow g C).ownsRow base 9 1 (.slice (some ⟨g, 0, none⟩) n cap) n (strs l) := by
  obtain ⟨hb, hn, hm, cur, hg, hsz, ht⟩ := own_block hd
  have hl : (strs l).length = n := by have := hs.1; omega
  have hr := run_copy_row (P := Try.prog) w 54 54 ty 9 g 0 n cap ⟨h, 0, none⟩ n cap' cur 9 (strs l) Try.underlying54 (by kernel_rfl) hg (by rw [hl]; exact (Nat.min_self n).symm) (fun j v hv => hs.cells (g := h) rfl j v hv) (by rw [hl, hsz]; omega)
    (by intro v hv; simp only [strs, List.mem_map] at hv; obtain ⟨s, _, rfl⟩ := hv; rfl)
  rw [hl] at hr
  refine ⟨_, hr, ⟨by rw [hl]; omega, .inr ⟨g, cap, _, rfl, hb, setRow_heap w g cur _ 9 _ hg, hn, hm, ?_, ?_⟩⟩⟩
  · simp [hl, hsz]; omega
  · have : n * 1 = (strs l).length := by omega
    rw [this]
    simp

theorem step_copy_law {P : Program} {ops : Array Oper} {o : Oper} {a : Act} {w : World} {K : Act → World → Prop} {Q : Exit → Act → World → Prop} {E : Prop} (hg : o.guard = none) (x y : Operand) (t : TypeId)
    (ho : o.op = .call { callee := .builtin .copy, args := #[x, y], argTypes := #[t, t] }) (v u : Value) (hv : a.eval x = v) (hu : a.eval y = u) {r : Value} {w' : World}
    (hr : (Builtin.copy_ #[t, t] o.type #[v, u]).run P w = .ok r w') (hK : K (a.put o.dst r) w') : if Region.wanted o (yielded ops a.tmps) = true then Oper.wp P o a w K Q else E := by
  rw [if_pos (by simp [Region.wanted, hg])]
  unfold Oper.wp
  simp [execOp, ho, resolve, invoke, builtin, hv, hu, hr, Result.andThen]
  exact hK

theorem tmod2 (y : Int) : y.tmod 2 = 0 ↔ y % 2 = 0 := by
  rw [← Int.dvd_iff_tmod_eq_zero, Int.dvd_iff_emod_eq_zero]

theorem grown_setRow (w : World) (g : Nat) (C : Array Value) : w.grownBy (w.setRow g C) (some g) :=
  ⟨rfl, rfl, rfl, by simp, fun k _ hk => setRow_other w g k _ (fun e => hk (by rw [e]))⟩

theorem Dv.rowS {T E base b bs cs bf cf : Nat} {vp : Value} {d : DS} {w : World} (h : Dv T E base b bs cs bf cf vp d w) (C : Array Value) (l : List ByteArray) (hl : l.length = d.s.length)
    (ho : (w.setRow bs C).ownsRow base 9 1 (.slice (some ⟨bs, 0, none⟩) d.s.length cs) d.s.length (strs l)) : Dv T E base b bs cs bf cf vp { d with s := l } (w.setRow bs C) := by
  have hg := grown_setRow w bs C
  refine ⟨?_, ?_, h.rf.kept hg (.inr (fun e => h.sf (by simpa [Value.ownBlock] using e.symm))), h.rp.kept hg (.inr h.ps), h.hb, h.sb, h.fb, h.sf, h.pb, h.ps, h.pf⟩
  · rw [setRow_other _ _ _ _ (fun e => h.sb e.symm), h.blk, ← hl]
  · rw [← hl] at ho
    exact ho

set_option maxHeartbeats 4000000 in
theorem Power_any {base b bs cs bf cf : Nat} {vp : Value} {d : DS} {w : World} (h : Dv 58 66 base b bs cs bf cf vp d w) (ka : Option Addr) (kn kc : Nat) (ks : List Int) (hkn : ks.length = kn)
    (hks : ∀ w', Moved (Own b bs bf vp) w w' → ∀ i, i < kn → ∃ x, ka = some x ∧ w'.cell? (x.add i) = some (.int .i64 (ks.getD i 0))) (hp : d.p.length ≤ 100000) (hf : d.f.length = d.s.length) (hat : ∀ k, k < d.p.length → (d.p.getD k (0, ⟨#[]⟩)).1 < d.s.length) :
    Calls Try.prog 19 #[.pointer (some ⟨b, 0, none⟩), .slice ka kn kc] w fun e w' => e = .returned (.tuple #[]) ∧ Next 58 66 base (Own b bs bf vp) b (d.pw ks) w w' := by
  obtain ⟨_, _, c2, _, _⟩ := h.cells
  obtain ⟨a, cap, rfl⟩ := own_slice h.rp
  have H := Lib.hid h
  have HAT := Lib.hid hat
  have HF := Lib.hid hf
  have HK := Lib.hid hks
  have HL := Lib.hid hkn
  clear h hat hf hks hkn
  go_enter Try.func19, Try.ntmps19
  go_wp2
  go_loopw [11] (fun i wr => ∃ k : Nat, i = .int .i64 k ∧ k ≤ d.p.length ∧ Dv 58 66 base b bs cs bf cf (.slice a d.p.length cap) { d with f := puts d.f (kept (d.p.take k) ks) } wr ∧ Moved (Own b bs bf (.slice a d.p.length cap)) w wr) (fun i _ => (d.p.length - intOf i).toNat)
  case atStart => exact ⟨0, rfl, Nat.zero_le _, H.out, Moved.refl _ _⟩
  case round =>
    obtain ⟨k, rfl, hk, hD, hM⟩ := hrel
    have HD := Lib.hid hD
    have HM := Lib.hid hM
    by_cases hlt : k < d.p.length
    · have hltI : (k : Int) < d.p.length := by omega
      obtain ⟨g, rfl⟩ : ∃ g, a = some ⟨g, 0, none⟩ := by
        rcases hD.rp.2 with ⟨e, e2⟩ | ⟨g, cap', cur, e, _⟩
        · dsimp only at e2; omega
        · simp only [Value.slice.injEq] at e
          exact ⟨g, e.1⟩
      obtain ⟨hx0, hx1⟩ := flat_at d.p k hlt
      have hc0 := (own_cell hD.rp hx0).1
      have hc1 := (own_cell hD.rp hx1).1
      have hj := HAT.out k hlt
      have hkt := kept_take d.p ks k hlt
      have hkeep := HK.out
      generalize d.p.getD k (0, ⟨#[]⟩) = x at *
      obtain ⟨j, t⟩ := x
      dsimp only at hc0 hc1 hj
      have hjf : j < (puts d.f (kept (d.p.take k) ks)).length := by rw [puts_length, HF.out]; exact hj
      obtain ⟨hg0, hg1⟩ := hD.fAt (i := j) hjf
      obtain ⟨_, z1, _, _, _⟩ := hD.cells
      have hjI : (j : Int) < (puts d.f (kept (d.p.take k) ks)).length := by omega
      have l0 := (hD.lt b (.inl rfl)).2
      have l1 := (hD.lt bf (.inr (.inr (.inl rfl)))).2
      have l2 := (hD.lt g (.inr (.inr (.inr rfl)))).2
      clear hx0 hx1 hj hD
      by_cases hkk : k < kn
      · have hkI : (k : Int) < kn := by omega
        obtain ⟨x, rfl, hcell⟩ := hkeep wr hM k hkk
        have l3 := row_block hcell
        rw [HL.out] at hkt
        generalize ks.getD k 0 = y at *
        by_cases hy : y % 2 = 0
        · have hyt : y.tmod 2 = 0 := (tmod2 y).2 hy
          have hyb : (y.tmod 2 != 0) = false := by simpa using hyt
          rw [if_neg (fun h => h.2 hy), List.append_nil] at hkt
          have HKT := Lib.hid hkt
          clear hkt hkeep hM hy
          go_wp2
          go_roundw
          case rel =>
            have hP := HD.out.below ((Below.refl _ _).alloc (Nat.le_refl _) (.cells #[.int .i64 (j : Int), .string t] 66))
            refine ⟨k + 1, by go_num, by omega, ?_, HM.out.alloc _⟩
            rw [HKT.out]
            exact hP
          case measure => simp [intOf]; omega
        · have hyt : ¬ y.tmod 2 = 0 := fun h => hy ((tmod2 y).1 h)
          have hyb : (y.tmod 2 != 0) = true := by simpa using hyt
          rw [if_pos ⟨hkk, hy⟩] at hkt
          have HKT := Lib.hid hkt
          clear hkt hkeep hM hy
          go_wp2
          go_region
          go_wp2
          go_roundw
          case rel =>
            have hP := (HD.out.putF j t).below ((Below.refl _ _).alloc (Nat.le_refl _) (.cells #[.int .i64 (j : Int), .string t] 66)).drew
            refine ⟨k + 1, by go_num, by omega, ?_, ((HM.out.setCell (.inl (.inr (.inr (.inl rfl)))) _ _).alloc _).drew⟩
            rw [HKT.out, puts_append]
            exact hP
          case measure => simp [intOf]; omega
      · have hkI : ¬ (k : Int) < kn := by omega
        rw [HL.out, if_neg (fun h => hkk h.1), List.append_nil] at hkt
        have HKT := Lib.hid hkt
        clear hkt hkeep hM
        go_wp2
        go_roundw
        case rel =>
          have hP := HD.out.below ((Below.refl _ _).alloc (Nat.le_refl _) (.cells #[.int .i64 (j : Int), .string t] 66))
          refine ⟨k + 1, by go_num, by omega, ?_, HM.out.alloc _⟩
          rw [HKT.out]
          exact hP
        case measure => simp [intOf]; omega
    · have hltI : ¬ (k : Int) < d.p.length := by omega
      obtain rfl : k = d.p.length := by omega
      rw [List.take_of_length_le (Nat.le_refl _)] at HD
      have hFl : (puts d.f (kept d.p ks)).length = d.s.length := by rw [puts_length, HF.out]
      have HE : Hid (d.pw ks = ⟨puts d.f (kept d.p ks), puts d.f (kept d.p ks), [], -1, false⟩) := rfl
      generalize puts d.f (kept d.p ks) = F at *
      clear hD hM
      obtain ⟨z0, z1, _, _, _⟩ := HD.out.cells
      dsimp only at z0 z1
      rw [hFl] at z1
      have hrf := HD.out.rf
      dsimp only at hrf
      rw [hFl] at hrf
      have HRS := Lib.hid HD.out.rs
      have HRF := Lib.hid hrf
      have HFL := Lib.hid hFl
      clear hrf hFl
      obtain ⟨C, hcp, hoC⟩ := run_copy_strs (w := wr.drew) 3 HRS.out HRF.out
      have hD2 : Dv 58 66 base b bs cs bf cf (.slice a d.p.length cap) { d with s := F, f := F } (wr.drew.setRow bs C) := Dv.rowS (w := wr.drew) (HD.out.below (Below.refl _ wr).drew) C F HFL.out hoC
      have hM2 : Moved (Own b bs bf (.slice a d.p.length cap)) w (wr.drew.setRow bs C) := HM.out.drew.setRow (.inl (.inr (.inl rfl))) _
      have HFo := Lib.hid (forget_any hD2)
      have HCP := Lib.hid hcp
      have HM2 := Lib.hid hM2
      clear hcp hoC hD2 hM2
      go_wp2
      go_region_law (refine step_copy_law rfl (.tmp 41) (.tmp 45) 54 rfl (.slice (some ⟨bs, 0, none⟩) d.s.length cs) (.slice (some ⟨bf, 0, none⟩) d.s.length cf) (by simp [Act.eval]) (by simp [Act.eval]) HCP.out ?_)
      all_goals
        go_wp2_with (go_at_call 38; ((with_reducible refine HFo.out.mono ?_)); rintro e w3 ⟨rfl, hN⟩; have HN := Lib.hid hN; clear hN; obtain ⟨O', ⟨bs', cs', bf', cf', vp', h1, hO⟩, h2, h3⟩ := HN.out; have H1 := Lib.hid h1; have HO := Lib.hid hO; have H2 := Lib.hid h2; have H3 := Lib.hid h3; obtain ⟨_, _, _, y3, y4⟩ := h1.cells; have x3 := h1.marks 3; have x4 := h1.marks 4; clear h1 hO h2 h3)
        go_end0
        have hfin := (H1.out.putLeft (-1)).putDown false
        rw [HE.out]
        refine ⟨rfl, O', ⟨_, _, _, _, _, hfin, HO.out⟩, ?_, ?_⟩
        · have hm := HM2.out.trans H2.out (fun k hk => .inl hk)
          exact (hm.setCell (.inl (.inl rfl)) _ _).setCell (.inl (.inl rfl)) _ _
        · exact fun k hk => (H3.out k hk).imp id (fun h => Nat.le_trans HM2.out.size h)

theorem Power_dev {base b : Nat} {O : Nat → Prop} {d : DS} {w : World} (h : Dev 58 66 base O b d w) (ok : Ok d) (ka : Option Addr) (kn kc : Nat) (ks : List Int) (hkn : ks.length = kn)
    (hks : ∀ w', Moved O w w' → ∀ i, i < kn → ∃ x, ka = some x ∧ w'.cell? (x.add i) = some (.int .i64 (ks.getD i 0))) :
    Calls Try.prog 19 #[.pointer (some ⟨b, 0, none⟩), .slice ka kn kc] w fun e w' => e = .returned (.tuple #[]) ∧ Next 58 66 base O b (d.pw ks) w w' := by
  obtain ⟨bs, cs, bf, cf, vp, h, rfl⟩ := h
  exact Power_any h ka kn kc ks hkn hks ok.few ok.len (fun k hk => ok.rd_lt hk)

end Go.Proofs.Ytchbmchgdhmmmaa
