/-
  A directory without a name, as the library's DeleteFunc makes it of a row of the call's own; what Without answers. Conditions: as each theorem states them.
-/
import Derived.Test.YteellffkjjllgaaQDrDel
import Derived.Laws.CopyRow
namespace Go.Proofs.Yteellffkjjllgaa
open Go.RowKit Go.Rc5 Go.Rc6 Go.Rc7

theorem zeroF_one (m : Nat) : ∀ u ∈ (Builtin.zeroCells #[Value.string ⟨#[]⟩, Value.int .i64 0, Value.slice none 0 0] m).toList, u.oneCell' = true := by
  intro u hu
  simp only [Builtin.zeroCells, Array.toList_map, List.mem_map] at hu
  obtain ⟨j, _, rfl⟩ := hu
  have h3 : j % 3 = 0 ∨ j % 3 = 1 ∨ j % 3 = 2 := by omega
  rcases h3 with e | e | e
  · show (#[Value.string ⟨#[]⟩, Value.int .i64 0, Value.slice none 0 0][j % 3]!).oneCell' = true
    rw [e]; rfl
  · show (#[Value.string ⟨#[]⟩, Value.int .i64 0, Value.slice none 0 0][j % 3]!).oneCell' = true
    rw [e]; rfl
  · show (#[Value.string ⟨#[]⟩, Value.int .i64 0, Value.slice none 0 0][j % 3]!).oneCell' = true
    rw [e]; rfl

/-- 'clear' of what stands behind in a row of files of the call's own. -/
theorem clear_behind {U : Nat → Prop} {w0 w : World} {l : List (Thing 0)} {g n cap i c : Nat} {A B : List Value} (h : Crew U w0 l w) (x : Nat) (hx : l[x]? = some (rowT 0 35 3 (.slice (some ⟨g, 0, none⟩) n cap) n (A ++ B))) (hA : A.length = i * 3) (hi : i ≤ n) (ty : TypeId) :
    ∃ w' B', (Builtin.clear_ #[24] ty #[.slice (some ⟨g, i * 3, none⟩) (n - i) c]).run Try.prog w = .ok (.tuple #[]) w' ∧ Crew U w0 (l.set x (rowT 0 35 3 (.slice (some ⟨g, 0, none⟩) n cap) n (A ++ B'))) w' := by
  obtain ⟨i0, hi0, hz0, hz1, hz2⟩ := info_parts infoF
  obtain ⟨O, ⟨ho, rfl⟩, hset, _⟩ := h.one hx
  by_cases hn : n - i = 0
  · refine ⟨w, B, ?_, hset _ _ ⟨_, ⟨ho, rfl⟩, Moved.refl _ _, fun k hk => .inl hk⟩⟩
    rw [hn]
    simp [Builtin.clear_, run_underlying Try.underlying24]
  · rcases ho.2 with ⟨e, _⟩ | ⟨g', cap', cur, e, hbg, hg, hnc, hcm, hcs, htake⟩
    · cases e
    · cases e
      obtain ⟨m, hm⟩ : ∃ m, n - i = m + 1 := ⟨n - i - 1, by omega⟩
      rw [hm]
      obtain ⟨Z, hZ⟩ : ∃ Z, (Builtin.zeroCells #[Value.string ⟨#[]⟩, Value.int .i64 0, Value.slice none 0 0] (m + 1)).toList = Z := ⟨_, rfl⟩
      have hlen : Z.length = (m + 1) * 3 := by
        rw [← hZ, Array.length_toList, zero_cells]
        rfl
      have h1 : ∀ u ∈ Z, u.oneCell' = true := by rw [← hZ]; exact zeroF_one _
      have hst := run_storeCells_at Try.prog g (i * 3) 35 Z 0 cur w hg (by rw [hlen, hcs]; omega) h1
      have hAB := ho.1
      have hpre : cur.toList.take (i * 3) = A := by
        have h2 := congrArg (List.take (i * 3)) htake
        rw [List.take_take, Nat.min_eq_left (by omega), List.take_left' hA] at h2
        exact h2
      obtain ⟨C, hC0⟩ : ∃ C, (cur.toList.take (i * 3 + 0) ++ Z ++ cur.toList.drop (i * 3 + 0 + Z.length)).toArray = C := ⟨_, rfl⟩
      rw [hC0] at hst
      have hC : C.size = cap * 3 := by
        rw [← hC0, List.size_toArray, List.length_append, List.length_append, List.length_take, List.length_drop, hlen, Array.length_toList, hcs]
        omega
      have hCt : C.toList.take (n * 3) = A ++ Z := by
        rw [← hC0]
        simp only [Nat.add_zero]
        rw [hpre, List.take_left']
        rw [List.length_append, hA, hlen]
        omega
      refine ⟨w.setRow g C, Z, ?_, hset (rowT 0 35 3 (.slice (some ⟨g, 0, none⟩) n cap) n (A ++ Z)) _ ⟨_, ⟨⟨by rw [List.length_append, hA, hlen]; omega, .inr ⟨g, cap, C, rfl, hbg, setRow_heap w g cur _ 35 _ hg, hnc, hcm, hC, hCt⟩⟩, rfl⟩, (Moved.refl (fun k => (Value.slice (some ⟨g, 0, none⟩) n cap).ownBlock = some k) w).setRow (b := g) (.inl rfl) C, fun k hk => .inl hk⟩⟩
      simp [Builtin.clear_, run_underlying Try.underlying24, zeroValue, typeInfo, hi0, hz0, Value.cells, hZ, hst]

/-- What is left without a name is the answer. -/
def Deleted (R : List FR) (nm : ByteArray) (w0 : World) (e : Ending) (w' : World) : Prop := (∃ a c, e = .returned (.slice a (R.filter (keep nm)).length c) ∧ FilesAt w' a ((R.filter (keep nm)).map (·.1))) ∧ Below w0.heap.size w0 w'

set_option maxRecDepth 100000 in
set_option maxHeartbeats 8000000 in
theorem DeleteFunc_any (R : List FR) (nb : Nat) (nm : ByteArray) (v : Value) (n : Nat) (w0 w : World) (hl : R.length = n) (hn : n ≤ 1000) (h : Crew (fun _ => False) w0 [blkT nb #[.string nm] 9, rowT 0 35 3 v n (filesC R), deepT R] w) :
    Calls Try.prog 43 #[v, .func (.func 44) #[] #[.pointer (some ⟨nb, 0, none⟩)]] w (Deleted R nm w0) := by
  obtain ⟨a, cap, rfl⟩ := h.slice 1 rfl
  have hnm := (h.at 0 rfl (j := 0) rfl).1
  have hF : FilesAt w a (R.map (·.1)) := files_own (rest := []) (by rw [List.append_nil]; exact h.own 1 rfl) (h.spans 2 rfl)
  have HI := Lib.hid (IndexFunc_any R nb nm a n cap w hF hl hn hnm)
  have HC := Lib.hid h
  have HL := Lib.hid hl
  have HF := Lib.hid hF
  clear h hF hl hnm
  go_enter Try.func43, Try.ntmps43
  go_wp2_with fail
  refine HI.out.mono ?_
  rintro e w1 ⟨⟨r, rfl, hr⟩, hb1⟩
  replace HC := Lib.hid (HC.out.below hb1)
  have HF1 := Lib.hid (FilesAt.below HF.out hb1)
  clear HI HF hb1
  rcases hr with ⟨k0, rfl, hk0, hkd, hke⟩ | ⟨rfl, hall⟩
  · obtain ⟨g, cap', hv⟩ := HC.out.held 1 rfl (by have := HL.out; omega)
    cases hv
    have hne1 : ((k0 : Int) == -1) = false := beq_eq_false_iff_ne.2 (by omega)
    have hkn : k0 < n := by have := HL.out; omega
    have hft : ∀ k, k ≤ k0 → (R.take k).filter (keep nm) = R.take k := fun k hk => by
      rw [List.filter_eq_self]
      intro q hq
      obtain ⟨j, hj, rfl⟩ := mem_getD default hq
      rw [List.length_take] at hj
      have e : (R.take k).getD j default = R.getD j default := by simp [List.getD_eq_getElem?_getD, show j < k by omega]
      rw [e]
      exact hke j (by omega)
    have hK : (R.take (k0 + 1)).filter (keep nm) = R.take k0 := by
      rw [filter_take (keep nm) R k0 default hk0, hkd, hft k0 (Nat.le_refl _)]
      simp
    have H0 : Hid (((R.take k0) = (R.take (k0 + 1)).filter (keep nm) ∧ (fileC (R.getD k0 default)).length = (k0 + 1 - (R.take k0).length) * 3) ∧ Crew (fun _ => False) w0 [blkT nb #[.string nm] 9, rowT 0 35 3 (.slice (some ⟨g, 0, none⟩) n cap) n (filesC (R.take k0) ++ (fileC (R.getD k0 default) ++ filesC (R.drop (k0 + 1)))), deepT R] w1) := by
      refine ⟨⟨hK.symm, ?_⟩, ?_⟩
      · rw [List.length_take, Nat.min_eq_left (by omega)]
        show 3 = _
        omega
      · rw [← filesC_cons, ← drop_at R k0 default hk0, ← filesC_append, List.take_append_drop]
        exact HC.out
    have hlk : (R.take k0).length = k0 := by rw [List.length_take, Nat.min_eq_left (by omega)]
    have HLK := Lib.hid hlk
    clear hK hft hkd hke HC hlk
    go_wp2
    go_loopw [5, 6] (fun i j wr => ∃ (q : Nat) (K : List FR) (M : List Value), i = .int .i64 K.length ∧ j = .int .i64 q ∧ q ≤ n ∧ K.length < q ∧ Hid (K = (R.take q).filter (keep nm) ∧ M.length = (q - K.length) * 3) ∧ Hid (Crew (fun _ => False) w0 [blkT nb #[.string nm] 9, rowT 0 35 3 (.slice (some ⟨g, 0, none⟩) n cap) n (filesC K ++ (M ++ filesC (R.drop q))), deepT R] wr)) (fun _ j _ => (n - intOf j).toNat)
    case atStart => exact ⟨k0 + 1, R.take k0, fileC (R.getD k0 default), by rw [HLK.out], by go_num, by omega, by rw [HLK.out]; omega, H0.out.1, H0.out.2⟩
    case round =>
      obtain ⟨q, K, M, rfl, rfl, hq, hKq, HKM, HR⟩ := hrel
      clear H0
      by_cases hlt : q < n
      · have hltI : (q : Int) < n := by omega
        have hql : q < R.length := by rw [HL.out]; exact hlt
        have hAM : (filesC K ++ M).length = q * 3 := by
          rw [List.length_append, filesC_length, HKM.out.2]
          omega
        have hdr := drop_at R q default hql
        have hfil := filter_take (keep nm) R q default hql
        rw [← HKM.out.1] at hfil
        have hR := HR.out
        rw [hdr, ← List.append_assoc] at hR
        obtain ⟨c0, c1, c2⟩ := files_cells (j := q) hR 1 rfl hAM
        obtain ⟨m0, m1, m2, M0, hM⟩ : ∃ m0 m1 m2 M0, M = m0 :: m1 :: m2 :: M0 := by
          have hml := HKM.out.2
          rcases M with _ | ⟨m0, _ | ⟨m1, _ | ⟨m2, M0⟩⟩⟩
          · simp at hml; omega
          · simp at hml; omega
          · simp at hml; omega
          · exact ⟨m0, m1, m2, M0, rfl⟩
        subst hM
        have hrw : rowC (R.getD q default) = .slice (R.getD q default).2.1 (R.getD q default).1.spans.length (R.getD q default).2.2 := rfl
        rw [hrw] at c2
        have hkp : keep nm (R.getD q default) = !decide ((R.getD q default).1.name = nm) := rfl
        generalize R.getD q default = r at *
        obtain ⟨f, p, cp⟩ := r
        dsimp only at c0 c1 c2 hkp
        have HD := Lib.hid (hR.block #[.string f.name, .int .i64 f.size, .slice p f.spans.length cp] 35)
        have d0 := (HD.out.at 3 rfl (j := 0) rfl).1
        have d1 := (HD.out.at 3 rfl (j := 1) rfl).1
        have d2 := (HD.out.at 3 rfl (j := 2) rfl).1
        have HDel := Lib.hid (del_any f p cp nb nm _ (HD.out.at 0 rfl (j := 0) rfl).1)
        have HKL : Hid (K.length < n) := by unfold Hid; omega
        cases hd : decide (f.name = nm) with
        | true =>
          rw [hd] at HDel hkp
          rw [hkp] at hfil
          have HJ : Hid (K = (R.take (q + 1)).filter (keep nm) ∧ ((m0 :: m1 :: m2 :: M0) ++ fileC (f, p, cp)).length = (q + 1 - K.length) * 3) := by
            refine ⟨by rw [hfil]; simp, ?_⟩
            rw [List.length_append, HKM.out.2]
            show _ + 3 = _
            omega
          clear hd hkp hfil hR hdr hAM hrw
          go_wp2_with fail
          refine HDel.out.mono ?_
          rintro e w2 ⟨rfl, hb2⟩
          have HE : Hid (Crew (fun _ => False) w0 [blkT nb #[.string nm] 9, rowT 0 35 3 (.slice (some ⟨g, 0, none⟩) n cap) n (filesC K ++ (((m0 :: m1 :: m2 :: M0) ++ fileC (f, p, cp)) ++ filesC (R.drop (q + 1)))), deepT R] w2) := by
            have := (HD.out.below hb2).pick [0, 1, 2] (by decide) rfl
            unfold Hid
            rw [filesC_cons] at this
            simp only [List.append_assoc] at this ⊢
            exact this
          clear HD HDel hb2 d0 d1 d2 c0 c1 c2 HR
          go_wp2
          exact ⟨⟨q + 1, K, (m0 :: m1 :: m2 :: M0) ++ fileC (f, p, cp), rfl, by go_num, by omega, by omega, HJ, HE.out⟩, by simp [intOf]; omega⟩
        | false =>
          rw [hd] at HDel hkp
          rw [hkp] at hfil
          have HJ : Hid (K ++ [(f, p, cp)] = (R.take (q + 1)).filter (keep nm) ∧ (M0 ++ fileC (f, p, cp)).length = (q + 1 - (K ++ [(f, p, cp)]).length) * 3) := by
            refine ⟨by rw [hfil]; simp, ?_⟩
            have hml := HKM.out.2
            simp only [List.length_cons] at hml
            rw [List.length_append, List.length_append]
            show _ + 3 = (q + 1 - (K.length + 1)) * 3
            omega
          clear hd hkp hfil hR hdr hAM hrw
          go_wp2_with fail
          refine HDel.out.mono ?_
          rintro e w2 ⟨rfl, hb2⟩
          have HE : Crew (fun _ => False) w0 [blkT nb #[.string nm] 9, rowT 0 35 3 (.slice (some ⟨g, 0, none⟩) n cap) n (filesC K ++ (m0 :: m1 :: m2 :: (M0 ++ (fileC (f, p, cp) ++ filesC (R.drop (q + 1)))))), deepT R, blkT wr.heap.size #[.string f.name, .int .i64 f.size, .slice p f.spans.length cp] 35] w2 := by
            have := HD.out.below hb2
            rw [filesC_cons] at this
            simp only [List.append_assoc, List.cons_append] at this
            exact this
          have hKA : (filesC K).length = K.length * 3 := filesC_length K
          obtain ⟨s0, f0⟩ : w2.cell? ⟨g, K.length * 3, none⟩ = some m0 ∧ w2.frozen? ⟨g, K.length * 3, none⟩ = false := HE.cell 1 rfl (app_at (t := 0) hKA rfl)
          obtain ⟨s1, f1⟩ : w2.cell? ⟨g, K.length * 3 + 1, none⟩ = some m1 ∧ w2.frozen? ⟨g, K.length * 3 + 1, none⟩ = false := HE.cell 1 rfl (app_at (t := 1) hKA rfl)
          obtain ⟨s2, f2⟩ : w2.cell? ⟨g, K.length * 3 + 2, none⟩ = some m2 ∧ w2.frozen? ⟨g, K.length * 3 + 2, none⟩ = false := HE.cell 1 rfl (app_at (t := 2) hKA rfl)
          have e0 := (HE.at 3 rfl (j := 0) rfl).1
          have e1 := (HE.at 3 rfl (j := 1) rfl).1
          have e2 := (HE.at 3 rfl (j := 2) rfl).1
          have HP := ((HE.put 1 rfl (K.length * 3) (.string f.name)).put 1 rfl (K.length * 3 + 1) (.int .i64 f.size)).put 1 rfl (K.length * 3 + 2) (.slice p f.spans.length cp)
          rw [set_three hKA] at HP
          have HG : Hid (Crew (fun _ => False) w0 [blkT nb #[.string nm] 9, rowT 0 35 3 (.slice (some ⟨g, 0, none⟩) n cap) n (filesC (K ++ [(f, p, cp)]) ++ ((M0 ++ fileC (f, p, cp)) ++ filesC (R.drop (q + 1)))), deepT R] (((w2.setCell ⟨g, K.length * 3, none⟩ (.string f.name)).setCell ⟨g, K.length * 3 + 1, none⟩ (.int .i64 f.size)).setCell ⟨g, K.length * 3 + 2, none⟩ (.slice p f.spans.length cp))) := by
            have := HP.pick [0, 1, 2] (by decide) rfl
            unfold Hid
            rw [filesC_snoc]
            simp only [List.append_assoc] at this ⊢
            exact this
          clear HD HDel hb2 d0 d1 d2 c0 c1 c2 HR HE HP hKA
          have hkl := HKL.out
          go_wp2
          exact ⟨⟨q + 1, K ++ [(f, p, cp)], M0 ++ fileC (f, p, cp), by rw [List.length_append]; go_num, by go_num, by omega, by rw [List.length_append]; show K.length + 1 < q + 1; omega, HJ, HG.out⟩, by simp [intOf]; omega⟩
      · obtain rfl : q = n := by omega
        have hltI : ¬ (q : Int) < q := by omega
        obtain ⟨w3, B', hrun, hc3⟩ := clear_behind (i := K.length) (c := cap - K.length) HR.out 1 rfl (filesC_length K) (by omega) 0
        have hcl : ∀ ty, (Builtin.clear_ #[24] ty #[.slice (some ⟨g, K.length * 3, none⟩) (q - K.length) (cap - K.length)]).run Try.prog wr = .ok (.tuple #[]) w3 := fun ty => hrun
        have HC3 := Lib.hid hc3
        have hcap : q ≤ cap := by
          rcases (HR.out.own 1 rfl).2 with ⟨e, _⟩ | ⟨g', cap', cur, e, _, _, hnc, _⟩
          · cases e
          · cases e
            exact hnc
        have HTK : Hid (K = R.filter (keep nm)) := by
          unfold Hid
          rw [HKM.out.1, List.take_of_length_le (Nat.le_of_eq HL.out)]
        have HKin : Hid (∀ r ∈ K, r ∈ R) := fun r hr => by
          rw [HTK.out] at hr
          exact (List.mem_filter.1 hr).1
        clear hrun hc3
        go_wp2
        go_ret
        refine ⟨⟨some ⟨g, 0, none⟩, cap, by rw [← HTK.out]; rfl, ?_⟩, HC3.out.bel⟩
        rw [← HTK.out]
        exact files_own (HC3.out.own 1 rfl) (fun r hr => HC3.out.spans 2 rfl r (HKin.out r hr))
  · have HA := Lib.hid hall
    have HB := Lib.hid HC.out.bel
    clear hall
    go_wp2
    go_ret
    refine ⟨⟨a, cap, ?_, ?_⟩, HB.out⟩
    · rw [List.filter_eq_self.2 HA.out, HL.out]
      rfl
    · rw [List.filter_eq_self.2 HA.out]
      exact HF1.out

end Go.Proofs.Yteellffkjjllgaa
