/-
  What the document's own Find, Without and With answer of a row of files. Conditions: as each theorem states them.
-/
import Derived.Test.YteellffkjjllgaaQDrIs
import Derived.Test.YteellffkjjllgaaQDrKeep
import Derived.Test.YteellffkjjllgaaQDrWide
namespace Go.Rc7
open Go.Rc5 Go.Rc6

/-- A file put ahead of the first one whose name is above its own. -/
def insL (f : Fl) : List Fl → List Fl
  | [] => [f]
  | g :: r => if lt f.name g.name = true then f :: g :: r else g :: insL f r

theorem insL_above {f : Fl} {B : List Fl} (h : ∀ g ∈ B, lt f.name g.name = true) : insL f B = f :: B := by
  cases B with
  | nil => rfl
  | cons g r => unfold insL; rw [if_pos (h g List.mem_cons_self)]

theorem insL_split {f : Fl} {A B : List Fl} (hA : ∀ g ∈ A, lt f.name g.name = false) (hB : ∀ g ∈ B, lt f.name g.name = true) : insL f (A ++ B) = A ++ (f :: B) := by
  induction A with
  | nil => exact insL_above hB
  | cons g r ih =>
    rw [List.cons_append]
    unfold insL
    rw [if_neg (by rw [hA g List.mem_cons_self]; decide), ih (fun g hg => hA g (List.mem_cons_of_mem _ hg)), List.cons_append]

theorem insL_with {L : List Fl} (h : Rises (L.map (·.name))) (f : Fl) : insL f (withoutL L f.name) = withL L f := by
  rw [without_split h, insL_split]
  · rfl
  · intro g hg
    exact lt_asymm (List.mem_filter.1 hg).2
  · intro g hg
    exact (List.mem_filter.1 hg).2

/-- What is still to come, be the file put in or not. -/
def remL (d : Bool) (f : Fl) (r : List Fl) : List Fl := if d = true then r else insL f r

theorem without_take {L : List Fl} {nm : ByteArray} {k : Nat} (h : k < L.length) : withoutL (L.take (k + 1)) nm = if (L.getD k default).name = nm then withoutL (L.take k) nm else withoutL (L.take k) nm ++ [L.getD k default] := by
  rw [take_snoc L k default h]
  unfold withoutL
  rw [List.filter_append]
  by_cases e : (L.getD k default).name = nm
  · rw [if_pos e, List.filter_cons_of_neg (by simpa using e)]
    simp
  · rw [if_neg e, List.filter_cons_of_pos (by simpa using e)]
    rfl

/-- What Find answers, in one word. -/
def resF (o : Option Fl) : Fl × Bool := match o with
  | some g => (g, true)
  | none => (⟨.empty, 0, []⟩, false)

theorem resF_spans {L : List Fl} {nm : ByteArray} {b : Nat} (h : ∀ g ∈ L, g.spans.length ≤ b) : (resF (findL L nm)).1.spans.length ≤ b := by
  cases e : findL L nm with
  | none => exact Nat.zero_le _
  | some g => exact h g (List.mem_of_find?_eq_some e)

end Go.Rc7
namespace Go.Proofs.Yteellffkjjllgaa
open Go.ChangeShapes Go.WideShapes Go.ChangeAt Go.RowKit Go.Rc5 Go.Rc6 Go.Rc7 Go.Deep

set_option maxRecDepth 100000 in
set_option maxHeartbeats 4000000 in
theorem FindR_any (L : List Fl) (nm : ByteArray) (a : Option Addr) (n c : Nat) (w : World) (h : FilesAt w a L) (hl : L.length = n) (hn : n ≤ 1000) :
    Calls Try.prog 18 #[.slice a n c, .string nm] w (FindBack (findL L nm) w) := by
  have H0 := (Crew.start w).block #[.string ⟨#[]⟩, .int .i64 0, .slice none 0 0] 39
  have HF := Lib.hid h
  have HC := Lib.hid H0
  have HL := Lib.hid hl
  clear h hl H0
  go_enter Try.func18, Try.ntmps18
  go_wp2
  go_loop [6] (fun i => ∃ k : Nat, i = .int .i64 k ∧ k ≤ n ∧ Hid (∀ j, j < k → (L.getD j default).name ≠ nm)) (fun i => (n - intOf i).toNat)
  case atStart => exact ⟨0, rfl, Nat.zero_le _, fun j hj => absurd hj (Nat.not_lt_zero _)⟩
  case round =>
    obtain ⟨k, rfl, hk, HN⟩ := hrel
    by_cases hlt : k < n
    · have hltI : (k : Int) < n := by omega
      have hkl : k < L.length := by rw [HL.out]; exact hlt
      obtain ⟨x, rfl, e0, e1, p, cp, e2, hs⟩ := HF.out k hkl
      have HS := Lib.hid hs
      have c0 := keeps HC.out.bel _ _ e0
      have hq := eq_beq (L.getD k default).name nm
      by_cases he : (L.getD k default).name = nm
      · have HO : Hid (findL L nm = some (L.getD k default)) := find_some hkl he (fun j hj => HN.out j hj)
        rw [decide_eq_true he] at hq
        have c1 := keeps HC.out.bel _ _ e1
        have c2 := keeps HC.out.bel _ _ e2
        generalize L.getD k default = f at *
        have b0 := (HC.out.at 0 rfl (j := 0) rfl)
        have b1 := (HC.out.at 0 rfl (j := 1) rfl)
        have b2 := (HC.out.at 0 rfl (j := 2) rfl)
        have C4 := (Crew.start w).block #[.string f.name, .int .i64 f.size, .slice p f.spans.length cp] 39
        obtain ⟨O, ⟨hblk, _⟩, _⟩ := C4.one (i := 0) rfl
        have HBLK := Lib.hid hblk
        have HBB := Lib.hid C4.bel
        clear C4 hblk HC e0 e1 e2 hs he hkl HN
        go_wp2
        refine bodyPost_ret (results_row_one rfl _ _ w.heap.size 39 _ (0, 0) _ rfl HBLK.out Try.underlying39 rfl (by kernel_rfl)) rfl ?_
        exact .inl ⟨f, p, cp, HO.out, rfl, SpansAt.below HS.out HBB.out, HBB.out⟩
      · have HN2 : Hid (∀ j, j < k + 1 → (L.getD j default).name ≠ nm) := fun j hj => by
          by_cases e : j = k
          · subst e
            exact he
          · exact HN.out j (by omega)
        rw [decide_eq_false he] at hq
        generalize L.getD k default = f at *
        clear e0 e1 e2 hs he hkl HN
        go_wp2
        exact ⟨⟨k + 1, by go_num, by omega, HN2⟩, by simp [intOf]; omega⟩
    · obtain rfl : k = n := by omega
      have hltI : ¬ (k : Int) < k := by omega
      have HO : Hid (findL L nm = none) := find_none (fun j hj => HN.out j (by rw [← HL.out]; exact hj))
      have b0 := (HC.out.at 0 rfl (j := 0) rfl)
      have b1 := (HC.out.at 0 rfl (j := 1) rfl)
      have b2 := (HC.out.at 0 rfl (j := 2) rfl)
      have C4 := (Crew.start w).block #[.string ⟨#[]⟩, .int .i64 0, .slice none 0 0] 39
      obtain ⟨O, ⟨hblk, _⟩, _⟩ := C4.one (i := 0) rfl
      have HBLK := Lib.hid hblk
      have HBB := Lib.hid C4.bel
      clear C4 hblk HC HN
      go_wp2
      refine bodyPost_ret (results_row_one rfl _ _ w.heap.size 39 _ (0, 0) _ rfl HBLK.out Try.underlying39 rfl (by kernel_rfl)) rfl ?_
      exact .inr ⟨HO.out, rfl, HBB.out⟩

set_option maxRecDepth 100000 in
set_option maxHeartbeats 4000000 in
theorem WithoutR_any (L : List Fl) (nm : ByteArray) (a : Option Addr) (n c : Nat) (w : World) (h : FilesAt w a L) (hl : L.length = n) (hn : n ≤ 1000) :
    Calls Try.prog 22 #[.slice a n c, .string nm] w (FilesRead (withoutL L nm) w) := by
  have HF := Lib.hid h
  have HL := Lib.hid hl
  have HC := Lib.hid ((Crew.start w).nil 39 3)
  clear h hl
  go_enter Try.func22, Try.ntmps22
  go_wp2
  go_loopw [5, 6] (fun v i wr => ∃ (k : Nat) (R : List FR), i = .int .i64 k ∧ k ≤ n ∧ R.length ≤ k ∧ Hid (R.map (·.1) = withoutL (L.take k) nm ∧ ∀ r ∈ R, SpansAt w r.2.1 r.1.spans) ∧ Hid (Crew (fun _ => False) w [rowT 0 39 3 v R.length (filesC R)] wr)) (fun _ i _ => (n - intOf i).toNat)
  case atStart => exact ⟨0, [], rfl, Nat.zero_le _, Nat.le_refl _, ⟨rfl, fun r hr => (by cases hr)⟩, HC⟩
  case round =>
    obtain ⟨k, R, rfl, hk, hRk, HI, HR⟩ := hrel
    clear HC
    obtain ⟨av, cv, rfl⟩ := HR.out.slice 0 rfl
    by_cases hlt : k < n
    · have hltI : (k : Int) < n := by omega
      have hkl : k < L.length := by rw [HL.out]; exact hlt
      obtain ⟨x, rfl, e0, e1, p, cp, e2, hs⟩ := HF.out k hkl
      have hq := eq_beq (L.getD k default).name nm
      have hwt := without_take (nm := nm) hkl
      by_cases he : (L.getD k default).name = nm
      · rw [if_pos he] at hwt
        have HI2 : Hid (R.map (·.1) = withoutL (L.take (k + 1)) nm ∧ ∀ r ∈ R, SpansAt w r.2.1 r.1.spans) := ⟨by rw [hwt]; exact HI.out.1, HI.out.2⟩
        rw [decide_eq_true he] at hq
        generalize L.getD k default = f at *
        have hq' : (f.name.toList != nm.toList) = false := by rw [bne, hq]; rfl
        have c0 := keeps HR.out.bel _ _ e0
        clear e0 e1 e2 hs he hkl HI hwt
        go_wp2
        exact ⟨⟨k + 1, R, by go_num, by omega, by omega, HI2, HR⟩, by simp [intOf]; omega⟩
      · rw [if_neg he] at hwt
        have HI2 : Hid ((R ++ [(L.getD k default, p, cp)]).map (·.1) = withoutL (L.take (k + 1)) nm ∧ ∀ r ∈ R ++ [(L.getD k default, p, cp)], SpansAt w r.2.1 r.1.spans) := by
          refine ⟨?_, fun r hr => ?_⟩
          · rw [hwt, List.map_append, HI.out.1]
            rfl
          · rw [List.mem_append, List.mem_singleton] at hr
            rcases hr with hr | rfl
            · exact HI.out.2 r hr
            · exact hs
        rw [decide_eq_false he] at hq
        generalize L.getD k default = f at *
        have hq' : (f.name.toList != nm.toList) = true := by rw [bne, hq]; rfl
        have c0 := keeps HR.out.bel _ _ e0
        have c1 := keeps HR.out.bel _ _ e1
        have c2 := keeps HR.out.bel _ _ e2
        have HE := Lib.hid (HR.out.below ((Below.refl _ wr).alloc (Nat.le_refl _) (.cells #[.string f.name, .int .i64 f.size, .slice p f.spans.length cp] 39)))
        clear e0 e1 e2 hs he hkl HI hwt HR
        go_wp2_with (at_builtin; refine wpList_append_crew HE.out 0 rfl rfl (.tmp 20) (.tmp 25) 28 rfl (.agg #[.string ⟨#[]⟩, .int .i64 0, .slice none 0 0]) 48 Try.underlying28 infoR rfl (by decide) rfl ⟨wr.heap.size, 0, none⟩ 1 1 [.string f.name, .int .i64 f.size, .slice p f.spans.length cp] rfl rfl (news_three wr _ _ _ _) (by simp [Value.oneCell']) (by unfold maxLen; omega) (by omega) ?ap)
        case ap =>
          intro v' w3 hc
          have HG : Hid (Crew (fun _ => False) w [rowT 0 39 3 v' (R ++ [((f, p, cp) : FR)]).length (filesC (R ++ [((f, p, cp) : FR)]))] w3) := by
            unfold Hid
            rw [filesC_snoc, List.length_append]
            exact hc
          clear hc HE
          go_wp2
          exact ⟨⟨k + 1, R ++ [((f, p, cp) : FR)], by go_num, by omega, by rw [List.length_append]; simp; omega, HI2, HG⟩, by simp [intOf]; omega⟩
    · obtain rfl : k = n := by omega
      have hltI : ¬ (k : Int) < k := by omega
      have h1 := HI.out.1
      rw [List.take_of_length_le (Nat.le_of_eq HL.out)] at h1
      have HE := Lib.hid h1
      clear h1
      go_wp2
      go_ret
      refine ⟨av, cv, by rw [← HE.out, List.length_map]; rfl, ?_, HR.out.bel⟩
      rw [← HE.out]
      exact files_own (rest := []) (by rw [List.append_nil]; exact HR.out.own 0 rfl) (fun r hr => SpansAt.below (HI.out.2 r hr) HR.out.bel)

set_option maxRecDepth 100000 in
set_option maxHeartbeats 8000000 in
theorem WithR_any (L : List Fl) (f : Fl) (a p : Option Addr) (n c cp : Nat) (w : World) (h : FilesAt w a L) (hl : L.length = n) (hn : n ≤ 900) (hf : SpansAt w p f.spans) (hr : Rises (L.map (·.name))) :
    Calls Try.prog 20 #[.slice a n c, .agg #[.string f.name, .int .i64 f.size, .slice p f.spans.length cp]] w (FilesRead (withL L f) w) := by
  have H0 := (Crew.start w).block #[.string f.name, .int .i64 f.size, .slice p f.spans.length cp] 39
  have HW := Lib.hid (WithoutR_any L f.name a n c _ (FilesAt.below h H0.bel) hl (by omega))
  have HSF : Hid (∀ W, Below w.heap.size w W → SpansAt W p f.spans) := fun W hW => SpansAt.below hf hW
  have HIW := Lib.hid (insL_with hr f)
  have hwl := without_length L f.name
  rw [hl] at hwl
  have HC := Lib.hid H0
  clear h hl hf hr H0
  rw [← HIW.out]
  generalize withoutL L f.name = Q at *
  obtain ⟨m, hm⟩ : ∃ m, Q.length = m := ⟨_, rfl⟩
  have HM := Lib.hid hm
  rw [hm] at hwl
  clear hm HIW
  go_enter Try.func20, Try.ntmps20
  have d0 := (HC.out.at 0 rfl (j := 0) rfl).1
  go_wp2_with fail
  refine HW.out.mono ?_
  rintro e w1 ⟨a1, c1, rfl, hf1, hb1⟩
  have HC1 := Lib.hid (HC.out.below hb1)
  have HFQ := Lib.hid hf1
  rw [HM.out]
  have HB0 := Lib.hid HC1.out.bel
  have z0 := (HC1.out.at 0 rfl (j := 0) rfl).1
  have z1 := (HC1.out.at 0 rfl (j := 1) rfl).1
  have z2 := (HC1.out.at 0 rfl (j := 2) rfl).1
  have Z0 : Hid (∀ W, Below w1.heap.size w1 W → W.cell? ⟨w.heap.size, 0, none⟩ = some (.string f.name)) := fun W hW => keeps hW _ _ z0
  have Z1 : Hid (∀ W, Below w1.heap.size w1 W → W.cell? ⟨w.heap.size, 1, none⟩ = some (.int .i64 f.size)) := fun W hW => keeps hW _ _ z1
  have Z2 : Hid (∀ W, Below w1.heap.size w1 W → W.cell? ⟨w.heap.size, 2, none⟩ = some (.slice p f.spans.length cp)) := fun W hW => keeps hW _ _ z2
  have HSQ := Lib.hid (HSF.out _ HC1.out.bel)
  have HR0 := Lib.hid ((Crew.start w1).nil 39 3)
  clear d0 hf1 hb1 HW HC HC1 z0 z1 z2 HSF
  go_wp2
  go_loopw [6, 7, 8] (fun v d i wr => ∃ (k : Nat) (R : List FR) (b : Bool), i = .int .i64 k ∧ d = .bool b ∧ k ≤ m ∧ R.length ≤ k + 1 ∧ (b = false → R.length ≤ k) ∧ Hid (R.map (·.1) ++ remL b f (Q.drop k) = insL f Q ∧ ∀ r ∈ R, SpansAt w1 r.2.1 r.1.spans) ∧ Hid (Crew (fun _ => False) w1 [rowT 0 39 3 v R.length (filesC R)] wr)) (fun _ _ i _ => (m - intOf i).toNat)
  case atStart => exact ⟨0, [], false, rfl, rfl, Nat.zero_le _, Nat.zero_le _, fun _ => Nat.zero_le _, ⟨rfl, fun r hr => (by cases hr)⟩, HR0⟩
  case round =>
    obtain ⟨k, R, b, rfl, rfl, hk, hRk, hRf, HI, HR⟩ := hrel
    clear HR0
    obtain ⟨av, cv, rfl⟩ := HR.out.slice 0 rfl
    by_cases hlt : k < m
    · have hltI : (k : Int) < m := by omega
      have hkl : k < Q.length := by rw [HM.out]; exact hlt
      obtain ⟨x, rfl, e0, e1, pg, cg, e2, hs⟩ := HFQ.out k hkl
      have hdr := drop_at Q k default hkl
      have HX1 : Hid ((b = true ∨ lt f.name (Q.getD k default).name = false) → (R ++ [(Q.getD k default, pg, cg)]).map (·.1) ++ remL b f (Q.drop (k + 1)) = insL f Q ∧ ∀ r ∈ R ++ [(Q.getD k default, pg, cg)], SpansAt w1 r.2.1 r.1.spans) := fun hc => by
        refine ⟨?_, fun r hr => ?_⟩
        · rw [← HI.out.1, hdr, List.map_append, List.append_assoc]
          congr 1
          cases b with
          | true => simp [remL]
          | false =>
            have h2 : lt f.name (Q.getD k default).name = false := hc.resolve_left (by decide)
            simp only [remL, Bool.false_eq_true, if_false, List.map_cons, List.map_nil, insL, h2]
            rfl
        · rw [List.mem_append, List.mem_singleton] at hr
          rcases hr with hr | rfl
          · exact HI.out.2 r hr
          · exact hs
      have HX2 : Hid (b = false → lt f.name (Q.getD k default).name = true → ((R ++ [(f, p, cp)]) ++ [(Q.getD k default, pg, cg)]).map (·.1) ++ remL true f (Q.drop (k + 1)) = insL f Q ∧ ∀ r ∈ (R ++ [(f, p, cp)]) ++ [(Q.getD k default, pg, cg)], SpansAt w1 r.2.1 r.1.spans) := fun hb h2 => by
        subst hb
        refine ⟨?_, fun r hr => ?_⟩
        · rw [← HI.out.1, hdr, List.map_append, List.map_append, List.append_assoc, List.append_assoc]
          congr 1
          simp only [remL, Bool.false_eq_true, if_false, if_true, List.map_cons, List.map_nil, insL, h2]
          rfl
        · rw [List.mem_append, List.mem_append, List.mem_singleton, List.mem_singleton] at hr
          rcases hr with (hr | rfl) | rfl
          · exact HI.out.2 r hr
          · exact HSQ.out
          · exact hs
      generalize Q.getD k default = g at *
      clear hs hdr HI hkl
      cases b with
      | true =>
        have HX := Lib.hid (HX1.out (.inl rfl))
        clear HX1 HX2
        go_wp2_with fail
        refine wp_region_after (by kernel_rfl) (by kernel_rfl) ?_
        repeat (go_big_quiet_step (first | fail))
        refine wpQuiet_nil ?_
        intro _ hw
        obtain ⟨q, rfl⟩ := hw
        have HRq := Lib.hid (HR.out.below q.is)
        generalize q.to = wp at *
        have c0 := keeps HRq.out.bel _ _ e0
        have c1 := keeps HRq.out.bel _ _ e1
        have c2 := keeps HRq.out.bel _ _ e2
        have HE := Lib.hid (HRq.out.below ((Below.refl _ wp).alloc (Nat.le_refl _) (.cells #[.string g.name, .int .i64 g.size, .slice pg g.spans.length cg] 39)))
        clear HR HRq
        go_wp2_with (at_builtin; refine wpList_append_crew HE.out 0 rfl rfl (.tmp 35) (.tmp 40) 28 rfl (.agg #[.string ⟨#[]⟩, .int .i64 0, .slice none 0 0]) 48 Try.underlying28 infoR rfl (by decide) rfl ⟨wp.heap.size, 0, none⟩ 1 1 [.string g.name, .int .i64 g.size, .slice pg g.spans.length cg] rfl rfl (news_three wp _ _ _ _) (by simp [Value.oneCell']) (by unfold maxLen; omega) (by omega) ?ap)
        case ap =>
          intro v' w3 hc
          have HG : Hid (Crew (fun _ => False) w1 [rowT 0 39 3 v' (R ++ [((g, pg, cg) : FR)]).length (filesC (R ++ [((g, pg, cg) : FR)]))] w3) := by
            unfold Hid
            rw [filesC_snoc, List.length_append]
            exact hc
          clear hc HE c0 c1 c2 e0 e1 e2
          go_wp2
          exact ⟨⟨k + 1, R ++ [((g, pg, cg) : FR)], true, by go_num, rfl, by omega, by rw [List.length_append]; simp; omega, fun h => (by cases h), HX, HG⟩, by simp [intOf]; omega⟩
      | false =>
        have a0 := fun q => after_cell (w := wr) (keeps HR.out.bel _ _ e0) (row_block (keeps HR.out.bel _ _ e0)) q
        have a9 := fun q => after_cell (w := wr) (Z0.out _ HR.out.bel) (row_block (Z0.out _ HR.out.bel)) q
        cases hl : lt f.name g.name with
        | false =>
          have hls : Op.bytesLess f.name.toList g.name.toList = false := hl
          have HX := Lib.hid (HX1.out (.inr hl))
          clear HX1 HX2 hl
          go_wp2_with fail
          refine wp_region_after (by kernel_rfl) (by kernel_rfl) ?_
          repeat (go_big_quiet_step (first | fail))
          refine wpQuiet_nil ?_
          intro _ hw
          obtain ⟨q, rfl⟩ := hw
          have HRq := Lib.hid (HR.out.below q.is)
          clear a0 a9
          generalize q.to = wp at *
          have c0 := keeps HRq.out.bel _ _ e0
          have c1 := keeps HRq.out.bel _ _ e1
          have c2 := keeps HRq.out.bel _ _ e2
          have HE := Lib.hid (HRq.out.below ((Below.refl _ wp).alloc (Nat.le_refl _) (.cells #[.string g.name, .int .i64 g.size, .slice pg g.spans.length cg] 39)))
          clear HR HRq
          go_wp2_with (at_builtin; refine wpList_append_crew HE.out 0 rfl rfl (.tmp 35) (.tmp 40) 28 rfl (.agg #[.string ⟨#[]⟩, .int .i64 0, .slice none 0 0]) 48 Try.underlying28 infoR rfl (by decide) rfl ⟨wp.heap.size, 0, none⟩ 1 1 [.string g.name, .int .i64 g.size, .slice pg g.spans.length cg] rfl rfl (news_three wp _ _ _ _) (by simp [Value.oneCell']) (by unfold maxLen; omega) (by omega) ?ap)
          case ap =>
            intro v' w3 hc
            have HG : Hid (Crew (fun _ => False) w1 [rowT 0 39 3 v' (R ++ [((g, pg, cg) : FR)]).length (filesC (R ++ [((g, pg, cg) : FR)]))] w3) := by
              unfold Hid
              rw [filesC_snoc, List.length_append]
              exact hc
            clear hc HE c0 c1 c2 e0 e1 e2
            go_wp2
            exact ⟨⟨k + 1, R ++ [((g, pg, cg) : FR)], false, by go_num, rfl, by omega, by rw [List.length_append]; simp; omega, fun _ => by have := hRf (by trivial); rw [List.length_append]; simp; omega, HX, HG⟩, by simp [intOf]; omega⟩
        | true =>
          have hls : Op.bytesLess f.name.toList g.name.toList = true := hl
          have HX := Lib.hid (HX2.out rfl hl)
          clear HX1 HX2 hl
          go_wp2_with fail
          refine wp_region_after (by kernel_rfl) (by kernel_rfl) ?_
          repeat (go_big_quiet_step (first | fail))
          refine wpQuiet_nil ?_
          intro _ hw
          obtain ⟨q, rfl⟩ := hw
          have HRq := Lib.hid (HR.out.below q.is)
          clear a0 a9
          generalize q.to = wp at *
          have b0 := Z0.out _ HRq.out.bel
          have b1 := Z1.out _ HRq.out.bel
          have b2 := Z2.out _ HRq.out.bel
          have HE := Lib.hid (HRq.out.below ((Below.refl _ wp).alloc (Nat.le_refl _) (.cells #[.string f.name, .int .i64 f.size, .slice p f.spans.length cp] 39)))
          clear HR HRq
          go_wp2_with (at_builtin; refine wpList_append_crew HE.out 0 rfl rfl (.tmp 31) (.tmp 33) 28 rfl (.agg #[.string ⟨#[]⟩, .int .i64 0, .slice none 0 0]) 48 Try.underlying28 infoR rfl (by decide) rfl ⟨wp.heap.size, 0, none⟩ 1 1 [.string f.name, .int .i64 f.size, .slice p f.spans.length cp] rfl rfl (news_three wp _ _ _ _) (by simp [Value.oneCell']) (by unfold maxLen; omega) (by omega) ?ap)
          case ap =>
            intro v2 w2 hc
            obtain ⟨av2, cv2, rfl⟩ := hc.slice 0 rfl
            have HG2 : Hid (Crew (fun _ => False) w1 [rowT 0 39 3 (.slice av2 (R ++ [((f, p, cp) : FR)]).length cv2) (R ++ [((f, p, cp) : FR)]).length (filesC (R ++ [((f, p, cp) : FR)]))] w2) := by
              unfold Hid
              rw [filesC_snoc, List.length_append]
              exact hc
            have c0 := keeps HG2.out.bel _ _ e0
            have c1 := keeps HG2.out.bel _ _ e1
            have c2 := keeps HG2.out.bel _ _ e2
            have hlen : (R ++ [((f, p, cp) : FR)]).length = R.length + 1 := by rw [List.length_append]; rfl
            have HE2 := Lib.hid (HG2.out.below ((Below.refl _ w2).alloc (Nat.le_refl _) (.cells #[.string g.name, .int .i64 g.size, .slice pg g.spans.length cg] 39)))
            generalize hR2 : R ++ [((f, p, cp) : FR)] = R2 at *
            rw [hlen] at HE2
            clear hc HE HG2 b0 b1 b2 hR2
            go_wp2_with (at_builtin; refine wpList_append_crew HE2.out 0 rfl rfl (.tmp 35) (.tmp 40) 28 rfl (.agg #[.string ⟨#[]⟩, .int .i64 0, .slice none 0 0]) 48 Try.underlying28 infoR rfl (by decide) rfl ⟨w2.heap.size, 0, none⟩ 1 1 [.string g.name, .int .i64 g.size, .slice pg g.spans.length cg] rfl rfl (news_three w2 _ _ _ _) (by simp [Value.oneCell']) (by unfold maxLen; omega) (by omega) ?ap)
            case ap =>
              intro v' w3 hc
              have HG : Hid (Crew (fun _ => False) w1 [rowT 0 39 3 v' (R2 ++ [((g, pg, cg) : FR)]).length (filesC (R2 ++ [((g, pg, cg) : FR)]))] w3) := by
                unfold Hid
                rw [filesC_snoc, List.length_append, hlen]
                exact hc
              clear hc HE2 c0 c1 c2 e0 e1 e2
              go_wp2
              exact ⟨⟨k + 1, R2 ++ [((g, pg, cg) : FR)], true, by go_num, rfl, by omega, by have := hRf (by trivial); rw [List.length_append, hlen]; simp; omega, fun h => (by cases h), HX, HG⟩, by simp [intOf]; omega⟩
    · obtain rfl : k = m := by omega
      have hltI : ¬ (k : Int) < k := by omega
      have hdn : Q.drop k = [] := List.drop_of_length_le (Nat.le_of_eq HM.out)
      cases b with
      | true =>
        have h1 := HI.out.1
        rw [hdn, show remL true f [] = [] from rfl, List.append_nil] at h1
        have HE := Lib.hid h1
        clear h1 hdn
        go_wp2
        go_ret
        refine ⟨av, cv, by rw [← HE.out, List.length_map]; rfl, ?_, below_trans HB0.out HR.out.bel⟩
        rw [← HE.out]
        exact files_own (rest := []) (by rw [List.append_nil]; exact HR.out.own 0 rfl) (fun r hr => SpansAt.below (HI.out.2 r hr) HR.out.bel)
      | false =>
        have h1 := HI.out.1
        rw [hdn, show remL false f [] = [f] from rfl] at h1
        have HE1 := Lib.hid h1
        have b0 := Z0.out _ HR.out.bel
        have b1 := Z1.out _ HR.out.bel
        have b2 := Z2.out _ HR.out.bel
        have HE := Lib.hid (HR.out.below ((Below.refl _ wr).alloc (Nat.le_refl _) (.cells #[.string f.name, .int .i64 f.size, .slice p f.spans.length cp] 39)))
        clear h1 hdn
        go_wp2_with (at_builtin; refine wpList_append_crew HE.out 0 rfl rfl (.tmp 44) (.tmp 46) 28 rfl (.agg #[.string ⟨#[]⟩, .int .i64 0, .slice none 0 0]) 48 Try.underlying28 infoR rfl (by decide) rfl ⟨wr.heap.size, 0, none⟩ 1 1 [.string f.name, .int .i64 f.size, .slice p f.spans.length cp] rfl rfl (news_three wr _ _ _ _) (by simp [Value.oneCell']) (by unfold maxLen; omega) (by omega) ?ap)
        case ap =>
          intro v' w3 hc
          obtain ⟨av2, cv2, rfl⟩ := hc.slice 0 rfl
          have HG : Hid (Crew (fun _ => False) w1 [rowT 0 39 3 (.slice av2 (R.length + 1) cv2) (R.length + 1) (filesC (R ++ [((f, p, cp) : FR)]))] w3) := by
            unfold Hid
            rw [filesC_snoc]
            exact hc
          have HL2 : Hid (insL f Q = (R ++ [((f, p, cp) : FR)]).map (·.1)) := by unfold Hid; rw [← HE1.out, List.map_append]; rfl
          have HS2 : Hid (∀ r ∈ R ++ [((f, p, cp) : FR)], SpansAt w1 r.2.1 r.1.spans) := fun r hr => by
            rw [List.mem_append, List.mem_singleton] at hr
            rcases hr with hr | rfl
            · exact HI.out.2 r hr
            · exact HSQ.out
          clear hc HE b0 b1 b2
          go_wp2
          go_ret
          refine ⟨av2, cv2, by rw [HL2.out, List.length_map, List.length_append]; rfl, ?_, below_trans HB0.out HG.out.bel⟩
          rw [HL2.out]
          exact files_own (rest := []) (by rw [List.append_nil]; have h := HG.out.own 0 rfl; exact h) (fun r hr => SpansAt.below (HS2.out r hr) HG.out.bel)

theorem FindBack.res {o : Option Fl} {w w' : World} {e : Ending} (h : FindBack o w e w') :
    ∃ p c, e = .returned (.tuple #[.agg #[.string (resF o).1.name, .int .i64 (resF o).1.size, .slice p (resF o).1.spans.length c], .bool (resF o).2]) ∧ SpansAt w' p (resF o).1.spans ∧ Below w.heap.size w w' := by
  rcases h with ⟨f, p, c, rfl, he, hs, hb⟩ | ⟨rfl, he, hb⟩
  · exact ⟨p, c, he, hs, hb⟩
  · exact ⟨none, 0, he, fun i hi => absurd hi (Nat.not_lt_zero i), hb⟩

theorem Find_res (L : List Fl) (nm : ByteArray) (a : Option Addr) (n c : Nat) (w : World) (h : FilesAt w a L) (hl : L.length = n) (hn : n ≤ 1000) (hs : ∀ f ∈ L, f.spans.length ≤ 8796093022208) {g : Fl} {b : Bool} (hX : resF (findL L nm) = (g, b)) :
    Calls Try.prog 17 #[.slice a n c, .string nm] w fun e w' => ∃ p d, e = .returned (.tuple #[.agg #[.string g.name, .int .i64 g.size, .slice p g.spans.length d], .bool b]) ∧ SpansAt w' p g.spans ∧ Below w.heap.size w w' :=
  (Find_any L nm a n c w h hl hn hs).mono fun e w' hf => by
    have h1 := FindBack.res hf
    rw [hX] at h1
    exact h1

theorem FindR_res (L : List Fl) (nm : ByteArray) (a : Option Addr) (n c : Nat) (w : World) (h : FilesAt w a L) (hl : L.length = n) (hn : n ≤ 1000) {g : Fl} {b : Bool} (hX : resF (findL L nm) = (g, b)) :
    Calls Try.prog 18 #[.slice a n c, .string nm] w fun e w' => ∃ p d, e = .returned (.tuple #[.agg #[.string g.name, .int .i64 g.size, .slice p g.spans.length d], .bool b]) ∧ SpansAt w' p g.spans ∧ Below w.heap.size w w' :=
  (FindR_any L nm a n c w h hl hn).mono fun e w' hf => by
    have h1 := FindBack.res hf
    rw [hX] at h1
    exact h1

open Classical in
theorem same_wide_self {A : List Fl} (hn : A.length ≤ 1000000) (hs : ∀ f ∈ A, f.spans.length ≤ 8796093022208) (w : World) (a b : Option Addr) (ca cb : Nat) (hA : FilesAt w a A) (hB : FilesAt w b A) :
    Calls Try.prog 13 #[.slice a A.length ca, .slice b A.length cb] w fun e w' => e = .returned (.bool true) ∧ Below w.heap.size w w' := by
  have h := files_same_wide A A a b ca cb _ _ w hA hB rfl rfl hn hs
  rw [decide_eq_true (rfl : A = A)] at h
  exact h

end Go.Proofs.Yteellffkjjllgaa
