/-
  What the program reads off a text, be it a directory's or not; what Take answers. Conditions: as each theorem states them.
-/
import Derived.Test.YteellffkjjllgaaGreatQDrRead
namespace Go.Proofs.YteellffkjjllgaaGreat
open Go.RowKit Go.Rc5 Go.Rc6 Go.Rc7

section
variable {U : Nat → Prop} {w0 w w' : World} {l : List (Thing 0)}

/-- What a call made of one block, with one thing more, takes its place. -/
theorem Crew.under {b T : Nat} {cs : Array Value} {t' u : Thing 0} (h : Crew U w0 l w) (i : Nat) (hi : l[i]? = some (blkT b cs T)) (hc : Crew (fun k => k = b) w [t', u] w') : Crew U w0 (l.set i noT ++ [t', u]) w' := by
  obtain ⟨O, ⟨hb, rfl⟩, hset, _⟩ := h.one hi
  have h1 := hset _ _ (groupT_shut hc)
  have h2 := h1.spill i (List.getElem?_set_self (List.getElem?_eq_some_iff.1 hi).1)
  rw [List.set_set] at h2
  exact h2

theorem Crew.deepen {R : List FR} {r : FR} (h : Crew U w0 (l ++ [spT (rowC r) r.1.spans]) w) (i : Nat) (hi : l[i]? = some (deepT R)) : Crew U w0 (l.set i (deepT (R ++ [r]))) w := by
  refine h.join i hi ?_
  rintro O O2 ⟨h1, h2⟩ ⟨ho, rfl⟩
  have hs := (spans_own (show w.ownsRow 0 _ 2 (.slice r.2.1 r.1.spans.length r.2.2) r.1.spans.length (flatI r.1.spans) from ho)).2
  refine ⟨fun q hq => ?_, fun k hk => hk.elim (h2 k) (fun hk => ?_)⟩
  · rw [List.mem_append, List.mem_singleton] at hq
    rcases hq with hq | rfl
    · exact ⟨(h1 q hq).1, fun hne x hx => .inl ((h1 q hq).2 hne x hx)⟩
    · refine ⟨hs, fun hne x hx => .inr ?_⟩
      show (rowC q).ownBlock = some x.block
      rcases ho.2 with ⟨_, h0⟩ | ⟨g, cap, cur, hv, _⟩
      · exact absurd (List.length_eq_zero_iff.1 h0) hne
      · rw [rowC, Value.slice.injEq] at hv
        rw [hx] at hv
        obtain ⟨hv, _⟩ := hv
        cases hv
        rw [rowC, hx]
        rfl
  · exact (ho.lt k hk).2

end

/-- A row of files that was read. -/
def ReadBack (t : ByteArray) (w : World) (e : Ending) (w' : World) : Prop :=
  ∃ (v : Value) (R : List FR), e = .returned v ∧ R.length ≤ 255 ∧ (∀ r ∈ R, FlOk r.1) ∧ (∀ L, Dir L → t.data.toList = bodyT L → R.map (·.1) = L) ∧ Crew (fun _ => False) w [rowT 0 40 3 v R.length (filesC R), deepT R] w'

set_option maxRecDepth 100000 in
set_option maxHeartbeats 16000000 in
theorem read_any (t : ByteArray) (ht : t.size ≤ 1000000) (w : World) : Calls Tryz.prog 32 #[.string t] w (ReadBack t w) := by
  have H0 := (Crew.start w).block #[.string t, .bool false] 94
  obtain ⟨n, hn⟩ : ∃ n, num t false 1 = n := ⟨_, rfl⟩
  obtain ⟨s1, hs1⟩ : ∃ T, lft t false 1 = T := ⟨_, rfl⟩
  obtain ⟨bad1, hb1⟩ : ∃ T, no t false 1 = T := ⟨_, rfl⟩
  have ln : n < 256 := by rw [← hn]; exact num_lt t false 1
  have g1 : s1.size ≤ t.size := by rw [← hs1]; exact lft_le _ _ _ (Nat.le_refl _)
  have key : ∀ L, Dir L → t.data.toList = bodyT L → n = L.length ∧ s1.data.toList = filesT L ∧ bad1 = false := by
    intro L hL hst
    have := hL.many
    unfold bodyT at hst
    obtain ⟨r1, r2, r3⟩ := read_num (k := 1) (by decide) (by omega) hst
    rw [show ((1 : Nat) : Int) = 1 from rfl, hs1] at r2
    exact ⟨hn.symm.trans r1, r2, hb1.symm.trans r3⟩
  have HKEY := Lib.hid key
  have HN1 := Number_crew H0 0 rfl ht 1 (by decide)
  rw [hn, hs1, hb1] at HN1
  have HD1 := Lib.hid HN1
  clear HN1 hn hs1 hb1 H0 key
  go_enter Tryz.func32, Tryz.ntmps32
  go_wp2_with fail
  refine HD1.out.mono ?_
  rintro e w1 ⟨rfl, h1⟩
  have h2 := (h1.nil 40 3).deep
  simp only [List.set_cons_zero, List.cons_append, List.nil_append] at h2
  have HC := Lib.hid h2
  clear h1 h2 HD1
  go_wp2_with fail
  go_loopw [4, 8] (fun v i wr => ∃ (k : Nat) (S : ByteArray) (bd : Bool) (R : List FR), i = .int .u64 k ∧ k ≤ n ∧ S.size ≤ t.size ∧ Hid (R.length = k ∧ (∀ r ∈ R, FlOk r.1) ∧ ∀ L, Dir L → t.data.toList = bodyT L → S.data.toList = filesT (L.drop k) ∧ bd = false ∧ R.map (·.1) = L.take k) ∧
    Hid (Crew (fun _ => False) w [blkT w.heap.size #[.string S, .bool bd] 94, rowT 0 40 3 v k (filesC R), deepT R] wr)) (fun _ i _ => (n - intOf i).toNat)
  case atStart => exact ⟨0, s1, bad1, [], rfl, Nat.zero_le _, g1, ⟨rfl, fun x hx => (by cases hx), fun L hL hst => ⟨(HKEY.out L hL hst).2.1, (HKEY.out L hL hst).2.2, rfl⟩⟩, HC.out⟩
  case round =>
    obtain ⟨k, S, bd, R, rfl, hk, hS, HI, HR⟩ := hrel
    clear HC
    by_cases hlt : k < n
    · have hltI : (k : Int) < n := by omega
      obtain ⟨O, ⟨hrd, _⟩, _⟩ := HR.out.one (i := 0) rfl
      have HRF := Lib.hid (readFile_any w.heap.size S bd (by omega) wr hrd)
      clear hrd
      go_wp2_with fail
      refine HRF.out.mono ?_
      rintro e w2 ⟨f, p, c, S', bd', rfl, hfr, hcr⟩
      have h3 := HR.out.under 0 rfl hcr
      simp only [List.set_cons_zero, List.cons_append, List.nil_append] at h3
      have h4 := (h3.pick [3, 1, 2, 4] (by decide) rfl)
      have h5 : Crew (fun _ => False) w [blkT w.heap.size #[.string S', .bool bd'] 94, rowT 0 40 3 _ k (filesC R), deepT (R ++ [(f, p, c)])] w2 := Crew.deepen (l := [blkT w.heap.size #[.string S', .bool bd'] 94, rowT 0 40 3 _ k (filesC R), deepT R]) (r := (f, p, c)) h4 2 rfl
      have HE := Lib.hid (h5.below ((Below.refl _ w2).alloc (Nat.le_refl _) (.cells #[.string f.name, .int .i64 f.size, .slice p f.spans.length c] 40)))
      have HJ : Hid (S'.size ≤ t.size ∧ (R ++ [(f, p, c)]).length = k + 1 ∧ (∀ r ∈ R ++ [(f, p, c)], FlOk r.1) ∧ ∀ L, Dir L → t.data.toList = bodyT L → S'.data.toList = filesT (L.drop (k + 1)) ∧ bd' = false ∧ (R ++ [(f, p, c)]).map (·.1) = L.take (k + 1)) := by
        obtain ⟨f1, f2, _, _, f3⟩ := hfr
        refine ⟨by omega, by rw [List.length_append, HI.out.1]; rfl, fun r hr => ?_, fun L hL hst => ?_⟩
        · rw [List.mem_append, List.mem_singleton] at hr
          rcases hr with hr | rfl
          · exact HI.out.2.1 r hr
          · exact f2
        · obtain ⟨e1, e2, e3⟩ := HI.out.2.2 L hL hst
          have hkl : k < L.length := by rw [← (HKEY.out L hL hst).1]; exact hlt
          have hdr : L.drop k = L.getD k default :: L.drop (k + 1) := by
            rw [List.drop_eq_getElem_cons hkl, List.getD_eq_getElem?_getD, List.getElem?_eq_getElem hkl]
            rfl
          rw [hdr, filesT_cons] at e1
          obtain ⟨i1, i2, i3⟩ := f3 _ _ (hL.well _ (getD_mem hkl)) e2 e1
          refine ⟨i2, i3, ?_⟩
          rw [List.map_append, e3, take_snoc L k default hkl, ← i1]
          rfl
      clear h3 h4 h5 hcr hfr HRF HR
      go_wp2_with (at_builtin; refine wpList_append_crew HE.out 1 rfl rfl (.tmp 10) (.tmp 12) 22 rfl (.agg #[.string ⟨#[]⟩, .int .i64 0, .slice none 0 0]) 48 Tryz.underlying22 infoF rfl (by decide) rfl ⟨w2.heap.size, 0, none⟩ 1 1 [.string f.name, .int .i64 f.size, .slice p f.spans.length c] rfl rfl (news_three w2 _ _ _ _) (by simp [Value.oneCell']) (by unfold maxLen; omega) (by omega) ?ap)
      case ap =>
        intro v' w3 hc
        have HG : Hid (Crew (fun _ => False) w [blkT w.heap.size #[.string S', .bool bd'] 94, rowT 0 40 3 v' (k + 1) (filesC (R ++ [(f, p, c)])), deepT (R ++ [(f, p, c)])] w3) := by
          unfold Hid
          rw [filesC_snoc]
          exact hc
        clear hc HE
        have hz := HJ.out.1
        go_wp2
        exact ⟨⟨k + 1, S', bd', R ++ [(f, p, c)], by go_num, by omega, hz, HJ.out.2, HG.out⟩, by simp [intOf]; omega⟩
    · obtain rfl : k = n := by omega
      have hltI : ¬ (k : Int) < k := by omega
      have HG := Lib.hid (HR.out.pick [1, 2] (by decide) rfl)
      clear HR
      go_wp2
      go_ret
      refine ⟨_, R, rfl, by rw [HI.out.1]; omega, HI.out.2.1, fun L hL hst => ?_, ?_⟩
      · rw [(HI.out.2.2 L hL hst).2.2, (HKEY.out L hL hst).1, List.take_of_length_le (Nat.le_refl _)]
      · rw [HI.out.1]
        exact HG.out

/-- What is wrong with a text that no directory tells. -/
noncomputable def errT (s : ByteArray) : Int := if tkE s = 0 then 2 else tkE s

theorem errT_ne (s : ByteArray) : errT s ≠ 0 := by
  unfold errT
  split
  · decide
  · assumption

theorem tk_ok {s : ByteArray} (h : tkE s = 0) : s = sealedB (tkT s) ∧ 4 ≤ s.size := by
  unfold tkE at h
  unfold tkT
  by_cases h1 : s.size < 4
  · rw [if_pos h1] at h
    cases h
  · rw [if_neg h1] at h ⊢
    by_cases h2 : sealedB (ahead s) = s
    · rw [if_pos h2]
      exact ⟨h2.symm, by omega⟩
    · rw [if_neg h2] at h
      cases h

theorem tk_dir (L : List Fl) : tkT (dirB L) = ⟨(bodyT L).toArray⟩ ∧ tkE (dirB L) = 0 := tk_sealed _

theorem dir_inj {L M : List Fl} (hL : Dir L) (hM : Dir M) (h : dirB L = dirB M) : L = M := by
  have h1 := (tk_dir L).1
  rw [h, (tk_dir M).1] at h1
  have h2 : bodyT M = bodyT L := by simpa using h1
  exact (body_inj (x := []) (y := []) hL hM (by rw [h2])).1

/-- What Take answers: the directory, or what is wrong. -/
def Takes (s : ByteArray) (w : World) (e : Ending) (w' : World) : Prop :=
  (∃ L a c, Dir L ∧ s = dirB L ∧ e = .returned (.tuple #[.slice a L.length c, .int .i64 0]) ∧ FilesAt w' a L ∧ Below w.heap.size w w') ∨
  ((¬ ∃ L, Dir L ∧ s = dirB L) ∧ e = .returned (.tuple #[.slice none 0 0, .int .i64 (errT s)]) ∧ Below w.heap.size w w')

theorem str_beq (a b : ByteArray) : (a.toList == b.toList) = decide (a = b) := eq_beq a b

set_option maxRecDepth 100000 in
set_option maxHeartbeats 4000000 in
theorem Take_files (s : ByteArray) (hs : s.size ≤ 1000000) (w : World) : Calls Tryz.prog 15 #[.string s] w (Takes s w) := by
  have HT := Lib.hid (fun W => Take_any s (by unfold maxLen; omega) W)
  by_cases h0 : tkE s = 0
  · obtain ⟨hse, h4⟩ := tk_ok h0
    have hsz : (tkT s).size ≤ 1000000 := by
      have := congrArg ByteArray.size hse
      rw [sealed_size] at this
      omega
    have HER : Hid (errT s = 2) := by unfold Hid errT; rw [if_pos h0]
    have HRD := Lib.hid (fun W => read_any (tkT s) hsz W)
    have HNO : Hid (∀ L, s = dirB L → (tkT s).data.toList = bodyT L) := fun L hL => by rw [hL, (tk_dir L).1]
    have HSE := Lib.hid hse
    rw [h0] at HT
    generalize tkT s = t at *
    clear hse hsz h0
    go_enter Tryz.func15, Tryz.ntmps15
    go_wp2_with fail
    refine (HT.out _).mono ?_
    rintro e w1 ⟨rfl, hb1⟩
    have HB := Lib.hid hb1
    clear hb1 HT
    go_wp2_with fail
    refine (HRD.out _).mono ?_
    rintro e w2 ⟨v, R, rfl, hlen, hok, hkey, hc⟩
    obtain ⟨a, c, rfl⟩ := hc.slice 0 rfl
    have hF : FilesAt w2 a (R.map (·.1)) := files_own (rest := []) (by rw [List.append_nil]; exact hc.own 0 rfl) (hc.spans 1 rfl)
    replace HB := Lib.hid (below_trans HB.out hc.bel)
    have HF := Lib.hid hF
    have HK := Lib.hid hkey
    have hl : (R.map (·.1)).length = R.length := List.length_map _
    have hok2 : ∀ f ∈ R.map (·.1), FlOk f := fun f hf => by
      obtain ⟨r, hr, rfl⟩ := List.mem_map.1 hf
      exact hok r hr
    clear hc HRD hkey hok
    by_cases hd : Dir (R.map (·.1))
    · have HD := Lib.hid hd
      have HP := Lib.hid (Put_yes (R.map (·.1)) a R.length c w2 hF hl hd)
      by_cases he : dirB (R.map (·.1)) = s
      · have hq : ((dirB (R.map (·.1))).toList == s.toList) = true := by rw [str_beq]; exact decide_eq_true he
        have HE := Lib.hid he.symm
        have HL := Lib.hid hl
        clear hd he hF hl hok2
        generalize dirB (R.map (·.1)) = D at HP hq
        go_wp2_with fail
        refine HP.out.mono ?_
        rintro e w3 ⟨rfl, hb3⟩
        replace HF := Lib.hid (FilesAt.below HF.out hb3)
        replace HB := Lib.hid (below_trans HB.out hb3)
        clear hb3
        go_wp2
        go_ret2
        exact .inl ⟨R.map (·.1), a, c, HD.out, HE.out, by rw [HL.out]; rfl, HF.out, HB.out⟩
      · have hq : ((dirB (R.map (·.1))).toList == s.toList) = false := by rw [str_beq]; exact decide_eq_false he
        have HE : Hid (¬ ∃ L, Dir L ∧ s = dirB L) := fun ⟨L, hL, hsL⟩ => he (by rw [HK.out L hL (HNO.out L hsL), hsL])
        clear hd he hF hl hok2
        generalize dirB (R.map (·.1)) = D at HP hq
        go_wp2_with fail
        refine HP.out.mono ?_
        rintro e w3 ⟨rfl, hb3⟩
        replace HB := Lib.hid (below_trans HB.out hb3)
        clear hb3
        go_wp2
        go_ret2
        exact .inr ⟨HE.out, by rw [HER.out]; rfl, HB.out⟩
    · have HP := Lib.hid (Put_no (R.map (·.1)) hok2 a R.length c w2 hF hl hd)
      have hq : s.toList.isEmpty = false := by rw [isEmpty_of]; exact decide_eq_false (by omega)
      have HE : Hid (¬ ∃ L, Dir L ∧ s = dirB L) := fun ⟨L, hL, hsL⟩ => hd (by rw [HK.out L hL (HNO.out L hsL)]; exact hL)
      clear hd hF hl hok2
      go_wp2_with fail
      refine HP.out.mono ?_
      rintro e w3 ⟨rfl, hb3⟩
      replace HB := Lib.hid (below_trans HB.out hb3)
      clear hb3
      go_wp2
      go_ret2
      exact .inr ⟨HE.out, by rw [HER.out]; rfl, HB.out⟩
  · have HER : Hid (errT s = tkE s) := by unfold Hid errT; rw [if_neg h0]
    have HE : Hid (¬ ∃ L, Dir L ∧ s = dirB L) := fun ⟨L, _, hsL⟩ => h0 (by rw [hsL]; exact (tk_dir L).2)
    generalize tkE s = x at *
    have hx : (x == 0) = false := by rw [beq_eq_false_iff_ne]; exact h0
    go_enter Tryz.func15, Tryz.ntmps15
    go_wp2_with fail
    refine (HT.out _).mono ?_
    rintro e w1 ⟨rfl, hb1⟩
    go_wp2
    go_ret2
    exact .inr ⟨HE.out, by rw [HER.out]; rfl, hb1⟩

end Go.Proofs.YteellffkjjllgaaGreat
