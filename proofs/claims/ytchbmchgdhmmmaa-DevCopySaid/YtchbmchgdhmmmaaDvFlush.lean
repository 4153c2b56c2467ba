/-
  What forget and Flush make of a device. Conditions: the device lies in memory as DvBase says; at most 100000 writes are pending.
-/
import Derived.Test.YtchbmchgdhmmmaaDvWrite
import Derived.RegionTactic
import Derived.BigRegion
namespace Go.Proofs.Ytchbmchgdhmmmaa
open Go.RowKit Go.Rc4

theorem run_clear_own {w : World} {base n : Nat} {v : Value} {xs : List Value} (ty : TypeId) (h : w.ownsRow base 66 2 v n xs) :
    ∃ w' ys, (Builtin.clear_ #[56] ty #[v]).run Try.prog w = .ok (.tuple #[]) w' ∧ w'.ownsRow base 66 2 v n ys ∧ w.grownBy w' v.ownBlock := by
  obtain ⟨i0, hi0, hz0, hz1, hz2⟩ := info_parts info66
  have hs := h
  have hself : ∀ row, w.grownBy w row := fun _ => ⟨rfl, rfl, rfl, Nat.le_refl _, fun _ _ _ => rfl⟩
  rcases h.2 with ⟨rfl, rfl⟩ | ⟨g, cap, cur, rfl, hbg, hg, hnc, hcm, hcs, htake⟩
  · refine ⟨w, xs, ?_, hs, hself _⟩
    simp [Builtin.clear_, run_underlying Try.underlying56]
  · by_cases hn : n = 0
    · subst hn
      refine ⟨w, xs, ?_, hs, hself _⟩
      simp [Builtin.clear_, run_underlying Try.underlying56]
    · obtain ⟨m, rfl⟩ : ∃ m, n = m + 1 := ⟨n - 1, by omega⟩
      have hlen : (Builtin.zeroCells #[Value.int .i64 0, .string ⟨#[]⟩] (m + 1)).toList.length = (m + 1) * 2 := by
        rw [Array.length_toList, size_zeroCells]
        rfl
      have h1 : ∀ u ∈ (Builtin.zeroCells #[Value.int .i64 0, .string ⟨#[]⟩] (m + 1)).toList, u.oneCell' = true := by
        intro u hu
        simp only [Builtin.zeroCells, Array.toList_map, List.mem_map] at hu
        obtain ⟨j, _, rfl⟩ := hu
        rcases Nat.mod_two_eq_zero_or_one j with e | e
        · show (#[Value.int IntKind.i64 0, Value.string ⟨#[]⟩][j % 2]!).oneCell' = true
          rw [e]; rfl
        · show (#[Value.int IntKind.i64 0, Value.string ⟨#[]⟩][j % 2]!).oneCell' = true
          rw [e]; rfl
      have hst := run_storeCells_at Try.prog g 0 66 _ 0 cur w hg (by rw [hlen, hcs]; omega) h1
      have hC : (cur.toList.take (0 + 0) ++ (Builtin.zeroCells #[Value.int .i64 0, .string ⟨#[]⟩] (m + 1)).toList ++ cur.toList.drop (0 + 0 + (Builtin.zeroCells #[Value.int .i64 0, .string ⟨#[]⟩] (m + 1)).toList.length)).toArray.size = cap * 2 := by
        rw [List.size_toArray, List.length_append, List.length_append, List.length_take, List.length_drop, hlen, Array.length_toList, hcs]
        omega
      generalize (cur.toList.take (0 + 0) ++ (Builtin.zeroCells #[Value.int .i64 0, .string ⟨#[]⟩] (m + 1)).toList ++ cur.toList.drop (0 + 0 + (Builtin.zeroCells #[Value.int .i64 0, .string ⟨#[]⟩] (m + 1)).toList.length)).toArray = C at hst hC
      refine ⟨w.setRow g C, C.toList.take ((m + 1) * 2), ?_, ⟨?_, .inr ⟨g, cap, C, rfl, hbg, setRow_heap w g cur _ 66 _ hg, hnc, hcm, hC, rfl⟩⟩, ⟨rfl, rfl, rfl, by simp, fun k _ hk => setRow_other w g k _ (fun e => hk (by simp [Value.ownBlock, e]))⟩⟩
      · simp [Builtin.clear_, run_underlying Try.underlying56, zeroValue, typeInfo, hi0, hz0, Value.cells, hst]
      · rw [List.length_take, Array.length_toList, hC]
        omega

set_option maxHeartbeats 2000000 in
theorem forget_any {base b bs cs bf cf : Nat} {vp : Value} {d : DS} {w : World} (h : Dv 58 66 base b bs cs bf cf vp d w) :
    Calls Try.prog 38 #[.pointer (some ⟨b, 0, none⟩)] w fun e w' => e = .returned (.tuple #[]) ∧ Next 58 66 base (Own b bs bf vp) b { d with p := [] } w w' := by
  obtain ⟨a, cap, rfl⟩ := own_slice h.rp
  obtain ⟨w1, ys, hrun, hown, hgr⟩ := run_clear_own 0 h.rp
  obtain ⟨_, _, c2, _, _⟩ := h.cells
  have hbk : w1.heap[b]? = _ := (hgr.block b (h.lt b (.inl rfl)).2 (fun e => h.pb e.symm)).trans h.blk
  have k2 : w1.cell? ⟨b, 2, none⟩ = some (.slice a d.p.length cap) := by rw [Lib.cell_of_heap hbk]; rfl
  have e2 : w1.frozen? ⟨b, 2, none⟩ = false := Lib.frozen_of_heap hbk 2
  have hv : w1.ownsRow base 66 2 (.slice a 0 cap) 0 [] ∧ (Value.slice a 0 cap).ownBlock = (Value.slice a d.p.length cap).ownBlock := by
    rcases hown.2 with ⟨e, _⟩ | ⟨g, cap', cur, e, hb, hg, hn, hm, hs, _⟩
    · simp only [Value.slice.injEq] at e
      obtain ⟨rfl, _, rfl⟩ := e
      exact ⟨World.ownsRow_nil _ _ _ _, rfl⟩
    · cases e
      exact ⟨⟨rfl, .inr ⟨g, _, cur, rfl, hb, hg, Nat.zero_le _, hm, hs, by simp⟩⟩, rfl⟩
  have HV := Lib.hid hv
  have HG := Lib.hid hgr
  have H := Lib.hid h
  clear h hbk hown hgr hv
  have fin : Next 58 66 base (Own b bs bf (.slice a d.p.length cap)) b { d with p := [] } w (w1.setCell ⟨b, 2, none⟩ (.slice a 0 cap)) := by
    have hP := H.out.putP (p := []) (v := .slice a 0 cap) HV.out.1 HG.out (fun k hk => .inl (HV.out.2 ▸ hk))
    refine ⟨_, ⟨_, _, _, _, _, hP, rfl⟩, ((Moved.refl _ _).grown HG.out (fun k hk => .inl (.inr (.inr (.inr hk))))).setCell (.inl (.inl rfl)) _ _, fun k hk => .inl ?_⟩
    rcases hk with hk | hk | hk | hk
    · exact .inl hk
    · exact .inr (.inl hk)
    · exact .inr (.inr (.inl hk))
    · exact .inr (.inr (.inr (HV.out.2 ▸ hk)))
  have FIN := Lib.hid fin
  clear fin
  cases a with
  | none =>
    go_enter Try.func38, Try.ntmps38
    go_wp2
    go_end0
    exact ⟨rfl, FIN.out⟩
  | some a =>
    go_enter Try.func38, Try.ntmps38
    go_wp2
    go_end0
    exact ⟨rfl, FIN.out⟩

theorem puts_take (f : List ByteArray) (p : List (Nat × ByteArray)) (k : Nat) (h : k < p.length) : puts f (p.take (k + 1)) = (puts f (p.take k)).set (p.getD k (0, ⟨#[]⟩)).1 (p.getD k (0, ⟨#[]⟩)).2 := by
  rw [List.take_succ_eq_append_getElem h, puts_append, List.getD_eq_getElem?_getD, List.getElem?_eq_getElem h]
  rfl

set_option maxHeartbeats 2000000 in
theorem Flush_down {base b bs cs bf cf : Nat} {vp : Value} {d : DS} {w : World} (h : Dv 58 66 base b bs cs bf cf vp d w) (hd : d.down = true) :
    Calls Try.prog 18 #[.pointer (some ⟨b, 0, none⟩)] w fun e w' => e = .returned (.int .i64 8) ∧ w = w' := by
  obtain ⟨_, _, _, _, c4⟩ := h.cells
  rw [hd] at c4
  clear h hd
  go_enter Try.func18, Try.ntmps18
  go_wp2
  go_ret
  exact ⟨rfl, rfl⟩

set_option maxHeartbeats 2000000 in
theorem Flush_dead {base b bs cs bf cf : Nat} {vp : Value} {d : DS} {w : World} (h : Dv 58 66 base b bs cs bf cf vp d w) (hd : d.down = false) (hl : d.left = 0) :
    Calls Try.prog 18 #[.pointer (some ⟨b, 0, none⟩)] w fun e w' => e = .returned (.int .i64 8) ∧ w.setCell ⟨b, 4, none⟩ (.bool true) = w' := by
  have HC := Lib.hid (count_zero h hl)
  obtain ⟨_, _, _, _, c4⟩ := h.cells
  rw [hd] at c4
  clear h hd hl
  go_enter Try.func18, Try.ntmps18
  go_wp2_with (go_at_call 36; ((with_reducible refine HC.out.mono ?_)); rintro e w1 ⟨rfl, rfl⟩)
  go_ret
  exact ⟨rfl, rfl⟩

set_option maxHeartbeats 4000000 in
theorem Flush_done {base b bs cs bf cf : Nat} {vp : Value} {d : DS} {w : World} (h : Dv 58 66 base b bs cs bf cf vp d w) (hd : d.down = false) (hl : ¬ d.left = 0) (h2 : d.left ≤ 9223372036854775807) (hp : d.p.length ≤ 100000) (hf : d.f.length = d.s.length) (hat : ∀ k, k < d.p.length → (d.p.getD k (0, ⟨#[]⟩)).1 < d.s.length) :
    Calls Try.prog 18 #[.pointer (some ⟨b, 0, none⟩)] w fun e w' => e = .returned (.int .i64 0) ∧ Next 58 66 base (Own b bs bf vp) b { d with f := puts d.f d.p, p := [], left := d.tick } w w' := by
  have HC := Lib.hid (count_on h hl h2)
  obtain ⟨_, _, _, _, c4⟩ := h.cells
  rw [hd] at c4
  obtain ⟨a, cap, rfl⟩ := own_slice h.rp
  have H := Lib.hid h
  have HAT := Lib.hid hat
  have HF := Lib.hid hf
  clear h hd hl h2 hat hf
  go_enter Try.func18, Try.ntmps18
  go_wp2_with (go_at_call 36; ((with_reducible refine HC.out.mono ?_)); rintro e w1 ⟨rfl, hd1, hm1⟩; have H1 := Lib.hid hd1; obtain ⟨_, _, q2, _, _⟩ := hd1.cells; have HM1 := Lib.hid hm1; clear hd1 hm1)
  go_loopw [20] (fun i wr => ∃ k : Nat, i = .int .i64 k ∧ k ≤ d.p.length ∧ Dv 58 66 base b bs cs bf cf (.slice a d.p.length cap) { d with f := puts d.f (d.p.take k), left := d.tick } wr ∧ Moved (Own b bs bf (.slice a d.p.length cap)) w wr) (fun i _ => (d.p.length - intOf i).toNat)
  case atStart => exact ⟨0, rfl, Nat.zero_le _, H1.out, HM1.out⟩
  case round =>
    obtain ⟨k, rfl, hk, hD, hM⟩ := hrel
    have HD := Lib.hid hD
    have HM := Lib.hid hM
    by_cases hlt : k < d.p.length
    · have hltI : (k : Int) < d.p.length := by omega
      obtain ⟨g, rfl⟩ : ∃ g, a = some ⟨g, 0, none⟩ := by
        rcases hD.rp.2 with ⟨e, e2⟩ | ⟨g, cap', cur, e, _⟩
        · dsimp only at e2; omega
        · simp only [Value.slice.injEq] at e
          exact ⟨g, e.1⟩
      obtain ⟨hx0, hx1⟩ := flat_at d.p k hlt
      have hc0 := (own_cell hD.rp hx0).1
      have hc1 := (own_cell hD.rp hx1).1
      have hj := HAT.out k hlt
      have HPT := Lib.hid (puts_take d.f d.p k hlt)
      generalize (d.p.getD k (0, ⟨#[]⟩)).1 = j at *
      generalize (d.p.getD k (0, ⟨#[]⟩)).2 = t at *
      have hjf : j < (puts d.f (d.p.take k)).length := by rw [puts_length, HF.out]; exact hj
      obtain ⟨hg0, hg1⟩ := hD.fAt (i := j) hjf
      obtain ⟨_, z1, _, _, _⟩ := hD.cells
      have hjI : (j : Int) < (puts d.f (d.p.take k)).length := by omega
      have l0 := (hD.lt b (.inl rfl)).2
      have l1 := (hD.lt bf (.inr (.inr (.inl rfl)))).2
      have l2 := (hD.lt g (.inr (.inr (.inr rfl)))).2
      clear hx0 hx1 hj hD hM
      go_wp2
      go_region
      go_wp2
      go_roundw
      case rel =>
        have hP := (HD.out.putF j t).below ((Below.refl _ _).alloc (Nat.le_refl _) (.cells #[.int .i64 (j : Int), .string t] 66)).drew
        refine ⟨k + 1, by go_num, by omega, ?_, ((HM.out.setCell (.inl (.inr (.inr (.inl rfl)))) _ _).alloc _).drew⟩
        rw [HPT.out]
        exact hP
      case measure => simp [intOf]; omega
    · have hltI : ¬ (k : Int) < d.p.length := by omega
      obtain rfl : k = d.p.length := by omega
      have HFo := Lib.hid (forget_any hD)
      clear hD hM
      go_wp2_with (go_at_call 38; ((with_reducible refine HFo.out.mono ?_)); rintro e w3 ⟨rfl, hN⟩)
      go_ret
      rw [List.take_of_length_le (Nat.le_refl _)] at hN
      obtain ⟨O', h1, h2, h3⟩ := hN
      exact ⟨rfl, O', h1, HM.out.trans h2 (fun k hk => .inl hk), fun k hk => (h3 k hk).imp id (fun h => Nat.le_trans HM.out.size h)⟩

theorem Flush_any {base b : Nat} {O : Nat → Prop} {d : DS} {w : World} (h : Dev 58 66 base O b d w) (ok : Ok d) (h2 : d.left ≤ 9223372036854775807) :
    Calls Try.prog 18 #[.pointer (some ⟨b, 0, none⟩)] w fun e w' => e = .returned (.int .i64 d.fl.1) ∧ Next 58 66 base O b d.fl.2 w w' := by
  have h0 := h
  obtain ⟨bs, cs, bf, cf, vp, h, rfl⟩ := h
  unfold DS.fl
  by_cases hd : d.down = true
  · rw [if_pos hd]
    refine (Flush_down h hd).mono ?_
    rintro e w' ⟨rfl, rfl⟩
    exact ⟨rfl, _, h0, Moved.refl _ _, fun k hk => .inl hk⟩
  · rw [if_neg hd]
    have hd : d.down = false := by simpa using hd
    by_cases hl : d.left = 0
    · rw [if_pos hl]
      refine (Flush_dead h hd hl).mono ?_
      rintro e w' ⟨rfl, rfl⟩
      exact ⟨rfl, _, ⟨_, _, _, _, _, h.putDown true, rfl⟩, (Moved.refl _ _).setCell (.inl (.inl rfl)) _ _, fun k hk => .inl hk⟩
    · rw [if_neg hl]
      exact Flush_done h hd hl h2 ok.few ok.len (fun k hk => ok.rd_lt hk)

end Go.Proofs.Ytchbmchgdhmmmaa
