/-
  What Without and With answer of a row of files. Conditions: as each theorem states them.
-/
import Derived.Test.YteellffkjjllgaaQDrOps
namespace Go.Proofs.Yteellffkjjllgaa
open Go.ChangeShapes Go.WideShapes Go.ChangeAt Go.RowKit Go.Rc5 Go.Rc6 Go.Rc7 Go.Deep

set_option maxRecDepth 100000 in
set_option maxHeartbeats 4000000 in
theorem Without_any (L : List Fl) (nm : ByteArray) (a : Option Addr) (n c : Nat) (w : World) (h : FilesAt w a L) (hl : L.length = n) (hn : n ≤ 1000) (hs : ∀ f ∈ L, f.spans.length ≤ 8796093022208) :
    Calls Try.prog 21 #[.slice a n c, .string nm] w (FilesRead (withoutL L nm) w) := by
  have H0 := (Crew.start w).block #[.string nm] 9
  have HT := Lib.hid (told_files L a n c _ (FilesAt.below h H0.bel) hl hn hs)
  have HC := Lib.hid H0
  have HL := Lib.hid hl
  clear h hl H0 hs
  go_enter Try.func21, Try.ntmps21
  go_wp2_with fail
  refine HT.out.mono ?_
  rintro e w1 ⟨v, R, rfl, hR, hc⟩
  have h1 := (HC.out.more (groupT_new hc)).spill 1 rfl
  have h2 := h1.pick [0, 2, 3] (by decide) rfl
  have hRl : R.length = n := by rw [← HL.out, ← hR, List.length_map]
  rw [HL.out] at h2
  have HD := Lib.hid (DeleteFunc_any R w.heap.size nm v n w w1 hRl hn h2)
  have HK := Lib.hid (keep_map R nm)
  rw [hR] at HK
  clear h1 h2 hc HT HC hRl hR
  go_wp2_with fail
  refine HD.out.mono ?_
  rintro e w2 ⟨⟨a2, c2, rfl, hf⟩, hb⟩
  have HF := Lib.hid hf
  have HB := Lib.hid hb
  have hlen : (R.filter (keep nm)).length = (withoutL L nm).length := by rw [← HK.out, List.length_map]
  rw [HK.out] at HF
  rw [hlen]
  clear hf hb HD hlen
  go_wp2
  go_ret
  exact ⟨a2, c2, rfl, HF.out, HB.out⟩

/-- The part of a row behind a place. -/
theorem files_drop {w : World} {x : Addr} {L : List Fl} (h : FilesAt w (some x) L) (k : Nat) : FilesAt w (some (x.add (k * 3))) (L.drop k) := by
  intro i hi
  rw [List.length_drop] at hi
  obtain ⟨y, hy, hf⟩ := h (k + i) (by omega)
  cases hy
  refine ⟨_, rfl, ?_⟩
  rw [add_add, show k * 3 + i * 3 = (k + i) * 3 by omega]
  have e : (L.drop k).getD i default = L.getD (k + i) default := by simp [List.getD_eq_getElem?_getD]
  rw [e]
  exact hf

theorem files_take {w : World} {a : Option Addr} {L : List Fl} (h : FilesAt w a L) (k : Nat) : FilesAt w a (L.take k) := by
  intro i hi
  rw [List.length_take] at hi
  obtain ⟨y, hy, hf⟩ := h i (by omega)
  refine ⟨y, hy, ?_⟩
  have e : (L.take k).getD i default = L.getD i default := by simp [List.getD_eq_getElem?_getD, show i < k by omega]
  rw [e]
  exact hf

theorem slice_front (a : Option Addr) (n c k : Nat) (hk : k ≤ c) (W : World) : (Instr.sliceAt 24 (.slice a n c) none (some (.int .i64 (k : Int))) none).run Try.prog W = .ok (.slice a k c) W := by
  have h0 : (0 : Int) ≤ k := by omega
  have h1 : (k : Int) ≤ c := by omega
  go_simp

theorem slice_back (a : Option Addr) (n c k : Nat) (hk : k ≤ n) (_hn : n ≤ c) (W : World) : ∃ y, (Instr.sliceAt 24 (.slice a n c) (some (.int .i64 (k : Int))) none none).run Try.prog W = .ok (.slice y (n - k) (c - k)) W ∧ (k < c → ∀ x, a = some x → y = some (x.add (k * 3))) := by
  have h0 : (0 : Int) ≤ k := by omega
  have h1 : (k : Int) ≤ n := by omega
  cases a with
  | none =>
    go_simp
  | some x =>
    by_cases hck : c = k
    · go_simp
    · go_simp

theorem slice_fit {a y : Option Addr} {n c k : Nat} (hn : n ≤ c) (hy : k < c → ∀ x, a = some x → y = some (x.add (k * 3))) {w : World} {L : List Fl} (h : FilesAt w a L) (hl : L.length = n) : FilesAt w y (L.drop k) := by
  by_cases hk : k < c
  · cases a with
    | none =>
      cases L with
      | nil => intro i hi; simp at hi
      | cons g r => obtain ⟨z, hz, _⟩ := h 0 (by simp); cases hz
    | some x =>
      rw [hy hk x rfl]
      exact files_drop h k
  · rw [List.drop_of_length_le (by omega)]
    intro i hi
    simp at hi

/-- Three rows of files in a row of their own. -/
theorem rows_three {W : World} {p q r : Option Addr} {l m n c d e : Nat} {A B C : List Fl} (hA : FilesAt W p A) (hB : FilesAt W q B) (hC : FilesAt W r C) (hl : A.length = l) (hm : B.length = m) (hn : C.length = n) :
    RowsF (W.alloc (.cells #[.slice p l c, .slice q m d, .slice r n e] 24)) (some ⟨W.heap.size, 0, none⟩) [A, B, C] := by
  have hb := (Below.refl W.heap.size W).alloc (Nat.le_refl _) (.cells #[.slice p l c, .slice q m d, .slice r n e] 24)
  subst hl hm hn
  intro i hi
  have h3 : i = 0 ∨ i = 1 ∨ i = 2 := by simp at hi; omega
  rcases h3 with rfl | rfl | rfl
  · exact ⟨_, p, c, rfl, by rw [add_own, World.cell?_alloc_new]; rfl, FilesAt.below hA hb⟩
  · exact ⟨_, q, d, rfl, by rw [add_own, World.cell?_alloc_new]; rfl, FilesAt.below hB hb⟩
  · exact ⟨_, r, e, rfl, by rw [add_own, World.cell?_alloc_new]; rfl, FilesAt.below hC hb⟩

/-- One file in a row of its own. -/
theorem files_one {W : World} {f : Fl} {p : Option Addr} {c : Nat} (h : SpansAt W p f.spans) : FilesAt (W.alloc (.cells #[.string f.name, .int .i64 f.size, .slice p f.spans.length c] 35)) (some ⟨W.heap.size, 0, none⟩) [f] := by
  have hb := (Below.refl W.heap.size W).alloc (Nat.le_refl _) (.cells #[.string f.name, .int .i64 f.size, .slice p f.spans.length c] 35)
  intro i hi
  obtain rfl : i = 0 := by simp at hi; omega
  refine ⟨_, rfl, ?_, ?_, p, c, ?_, SpansAt.below h hb⟩
  · rw [add_own, World.cell?_alloc_new]; rfl
  · rw [add_own, World.cell?_alloc_new]; rfl
  · rw [add_own, World.cell?_alloc_new]; rfl

set_option maxRecDepth 100000 in
set_option maxHeartbeats 8000000 in
theorem With_any (L : List Fl) (f : Fl) (a p : Option Addr) (n c cp : Nat) (w : World) (h : FilesAt w a L) (hl : L.length = n) (hn : n ≤ 900) (hc : n ≤ c) (hs : ∀ f ∈ L, f.spans.length ≤ 8796093022208) (hf : SpansAt w p f.spans) (hfs : f.spans.length ≤ 8796093022208) (hr : Rises (L.map (·.name))) :
    Calls Try.prog 19 #[.slice a n c, .agg #[.string f.name, .int .i64 f.size, .slice p f.spans.length cp]] w (FilesRead (withL L f) w) := by
  have H0 := (Crew.start w).block #[.string f.name, .int .i64 f.size, .slice p f.spans.length cp] 35
  have H1 := H0.below ((Below.refl _ _).drew)
  have HT := Lib.hid (told_name L a n c _ (FilesAt.below h H1.bel) hl (by omega))
  have HC1 := Lib.hid H1
  have HF := Lib.hid (fun W (hW : Below w.heap.size w W) => FilesAt.below h hW)
  have HFS := Lib.hid (fun W (hW : Below w.heap.size w W) => SpansAt.below hf hW)
  have HL := Lib.hid hl
  have HR := Lib.hid hr
  have HS := Lib.hid hs
  have HSZ := Lib.hid hfs
  have c0 := (H1.at 0 rfl (j := 0) rfl).1
  clear h hl H0 H1 hs hf hr hfs
  go_enter Try.func19, Try.ntmps19
  go_wp2_with fail
  go_region_law
    (first
      | (go_simp; go_at_call 37; refine HT.out.mono ?_; rintro e w1 ⟨a1, c1, rfl, hs1, hb1, _⟩; have HC2 := Lib.hid (HC1.out.below hb1); have c1' := (HC2.out.at 0 rfl (j := 0) rfl).1; have HI := Lib.hid (Search_any (L.map (·.name)) f.name a1 n c1 w1 hs1 (by rw [List.length_map, HL.out]) (by omega) HR.out); clear hs1 hb1)
      | (go_simp; go_at_call 40; refine HI.out.mono ?_; rintro e w2 ⟨⟨k, b, rfl, hbel, hbt⟩, rfl⟩; have HBel := Lib.hid hbel; have HBT := Lib.hid hbt; clear hbel hbt))
  all_goals
    clear HT HC1 c1' c0 HI
    have hkl : k ≤ n := by have := HBel.out.le; rw [List.length_map, HL.out] at this; exact this
    have hb1 : b = true → k < n := fun h => (HBT.out.1 h).1
    have HX := Lib.hid (with_split HR.out HBel.out (b := b) (by rw [HL.out]; exact HBT.out))
    simp only [List.getElem_toArray, List.getElem_cons_succ, List.getElem_cons_zero, Act.put, List.setIfInBounds_toArray, List.set_cons_succ, List.set_cons_zero]
    have hkc : (k : Int) ≤ c := by omega
    have hk0 : (0 : Int) ≤ k := by omega
    have hkn : (k : Int) ≤ n := by omega
    cases a with
    | none =>
      have hL : L = [] := by
        have h0 := HF.out w (Below.refl _ _)
        cases L with
        | nil => rfl
        | cons g r => obtain ⟨z, hz, _⟩ := h0 0 (by simp); cases hz
      subst hL
      obtain rfl : n = 0 := by have := HL.out; simpa using this.symm
      obtain rfl : k = 0 := by omega
      cases b with
      | true => exact absurd (hb1 rfl) (by omega)
      | false =>
        clear hb1 HBT HBel HR
        have HZ : Hid (∀ W, Below w.heap.size w W → FilesAt W none (([] : List Fl).drop 0)) := fun W _ i hi => by simp at hi
        have HX2 : Hid (withL [] f = [([] : List Fl).take 0, [f], ([] : List Fl).drop 0].flatten) := by unfold Hid; rw [HX.out]; simp
        have hln : (([] : List Fl).drop 0).length = 0 := rfl
        have hlt : (([] : List Fl).take 0).length = 0 := rfl
        have HLN := Lib.hid hln
        have HLT := Lib.hid hlt
        have HSUM : Hid (([([] : List Fl).take 0, [f], ([] : List Fl).drop 0].map List.length).sum ≤ 100000) := by unfold Hid; simp only [List.map_cons, List.map_nil, List.sum_cons, List.sum_nil, List.length_cons, List.length_nil]; omega
        have HFL : Hid ([([] : List Fl).take 0, [f], ([] : List Fl).drop 0].flatten.length ≤ 1000) := by
          unfold Hid
          have := hlt
          have := hln
          simp only [List.flatten_cons, List.flatten_nil, List.length_append, List.length_cons, List.length_nil]
          omega
        have HSM : Hid (∀ g ∈ [([] : List Fl).take 0, [f], ([] : List Fl).drop 0].flatten, g.spans.length ≤ 8796093022208) := fun g hg => by
          simp only [List.flatten_cons, List.flatten_nil, List.mem_append, List.mem_singleton, List.append_nil] at hg
          rcases hg with hg | rfl | hg
          · exact HS.out g (List.mem_of_mem_take hg)
          · exact HSZ.out
          · exact HS.out g (List.mem_of_mem_drop hg)
        have d0 := (HC2.out.at 0 rfl (j := 0) rfl).1
        have d1 := (HC2.out.at 0 rfl (j := 1) rfl).1
        have d2 := (HC2.out.at 0 rfl (j := 2) rfl).1
        have hb35 := (Below.refl w2.heap.size w2).alloc (Nat.le_refl _) (.cells #[.string f.name, .int .i64 f.size, .slice p f.spans.length cp] 35)
        have HB35 := Lib.hid (below_trans HC2.out.bel hb35)
        have hrows := rows_three (W := w2.alloc (.cells #[.string f.name, .int .i64 f.size, .slice p f.spans.length cp] 35)) (p := none) (q := some ⟨w2.heap.size, 0, none⟩) (r := none) (l := 0) (m := 1) (n := 0) (c := c) (d := 1) (e := c) (files_take (HF.out _ HB35.out) 0) (files_one (HFS.out _ HC2.out.bel)) (HZ.out _ HB35.out) hlt rfl hln
        rw [World.size_alloc] at hrows
        have hbb : Below w.heap.size w ((w2.alloc (.cells #[.string f.name, .int .i64 f.size, .slice p f.spans.length cp] 35)).alloc (.cells #[.slice none 0 c, .slice (some ⟨w2.heap.size, 0, none⟩) 1 1, .slice none 0 c] 24)) := below_trans HB35.out ((Below.refl _ _).alloc (Nat.le_refl _) _)
        generalize hW1 : (w2.alloc (.cells #[.string f.name, .int .i64 f.size, .slice p f.spans.length cp] 35)).alloc (.cells #[.slice none 0 c, .slice (some ⟨w2.heap.size, 0, none⟩) 1 1, .slice none 0 c] 24) = W1 at hrows hbb
        have hdr : Below W1.heap.size W1 W1.drew := (Below.refl _ _).drew
        have HCon := Lib.hid (ConcatF_any [([] : List Fl).take 0, [f], ([] : List Fl).drop 0] (some ⟨w2.heap.size + 1, 0, none⟩) 3 3 W1.drew (RowsF.below hrows hdr) rfl (by decide) HSUM.out)
        generalize [([] : List Fl).take 0, [f], ([] : List Fl).drop 0].flatten = FF at HCon HX2 HFL HSM
        have HBR := Lib.hid (below_trans hbb hdr)
        clear hln hlt hb35 hrows hbb hdr
        go_wp2
        go_region_law
          (first
            | (go_simp; go_at_call 42; refine HCon.out.mono ?_; rintro e w5 ⟨a5, c5, rfl, hf5, hb5⟩; have hq5 := hb5; have HB5 := Lib.hid (below_trans HBR.out hq5); have HT5 := Lib.hid (told_files _ a5 _ c5 w5 hf5 rfl HFL.out HSM.out); clear hf5 hb5 hq5)
            | (go_simp; go_at_call 41; refine HT5.out.mono ?_; rintro e w6 ⟨v6, R6, rfl, hR6, hc6⟩; obtain ⟨a6, c6, rfl⟩ := hc6.slice 0 rfl; have HF6 := Lib.hid (files_own (rest := []) (by rw [List.append_nil]; exact hc6.own 0 rfl) (hc6.spans 1 rfl)); have HB6 := Lib.hid (below_trans HB5.out hc6.bel); have HR6 := Lib.hid hR6; clear hc6 hR6))
        all_goals
          simp only [List.getElem_toArray, List.getElem_cons_succ, List.getElem_cons_zero, Act.put, List.setIfInBounds_toArray, List.set_cons_succ, List.set_cons_zero]
          have hfin : FilesRead (withL [] f) w (.returned (.slice a6 FF.length c6)) w6 := by
            rw [HX2.out]
            have h := HF6.out
            rw [HR6.out] at h
            exact ⟨a6, c6, rfl, h, HB6.out⟩
          have HFIN := Lib.hid hfin
          clear hfin HF6 HR6 HT5
          go_wp2
          go_ret
          exact HFIN.out
    | some x =>
      cases b with
      | true =>
        have hk1 := hb1 rfl
        have h1 : (1 : Int) ≤ ((n - k : Nat) : Int) := by omega
        have h1' : 1 ≤ n - k := by omega
        have hck : ¬ c = k := by omega
        clear hb1 HBT HBel HR
        by_cases h2 : c - k = 1
        · have HZ : Hid (∀ W, Below w.heap.size w W → FilesAt W (some (x.add (k * 3))) (L.drop (k + 1))) := fun W _ => by
            rw [List.drop_of_length_le (by have := HL.out; omega)]
            intro i hi
            simp at hi
          have HX2 : Hid (withL L f = [L.take k, [f], L.drop (k + 1)].flatten) := by unfold Hid; rw [HX.out]; simp
          have hln : (L.drop (k + 1)).length = n - k - 1 := by have := HL.out; rw [List.length_drop]; omega
          have hlt : (L.take k).length = k := by have := HL.out; rw [List.length_take]; omega
          have HLN := Lib.hid hln
          have HLT := Lib.hid hlt
          have HSUM : Hid (([L.take k, [f], L.drop (k + 1)].map List.length).sum ≤ 100000) := by unfold Hid; simp only [List.map_cons, List.map_nil, List.sum_cons, List.sum_nil, List.length_cons, List.length_nil]; omega
          have HFL : Hid ([L.take k, [f], L.drop (k + 1)].flatten.length ≤ 1000) := by
            unfold Hid
            have := hlt
            have := hln
            simp only [List.flatten_cons, List.flatten_nil, List.length_append, List.length_cons, List.length_nil]
            omega
          have HSM : Hid (∀ g ∈ [L.take k, [f], L.drop (k + 1)].flatten, g.spans.length ≤ 8796093022208) := fun g hg => by
            simp only [List.flatten_cons, List.flatten_nil, List.mem_append, List.mem_singleton, List.append_nil] at hg
            rcases hg with hg | rfl | hg
            · exact HS.out g (List.mem_of_mem_take hg)
            · exact HSZ.out
            · exact HS.out g (List.mem_of_mem_drop hg)
          have d0 := (HC2.out.at 0 rfl (j := 0) rfl).1
          have d1 := (HC2.out.at 0 rfl (j := 1) rfl).1
          have d2 := (HC2.out.at 0 rfl (j := 2) rfl).1
          have hb35 := (Below.refl w2.heap.size w2).alloc (Nat.le_refl _) (.cells #[.string f.name, .int .i64 f.size, .slice p f.spans.length cp] 35)
          have HB35 := Lib.hid (below_trans HC2.out.bel hb35)
          have hrows := rows_three (W := w2.alloc (.cells #[.string f.name, .int .i64 f.size, .slice p f.spans.length cp] 35)) (p := some x) (q := some ⟨w2.heap.size, 0, none⟩) (r := some (x.add (k * 3))) (l := k) (m := 1) (n := n - k - 1) (c := c) (d := 1) (e := 0) (files_take (HF.out _ HB35.out) k) (files_one (HFS.out _ HC2.out.bel)) (HZ.out _ HB35.out) hlt rfl hln
          rw [World.size_alloc] at hrows
          have hbb : Below w.heap.size w ((w2.alloc (.cells #[.string f.name, .int .i64 f.size, .slice p f.spans.length cp] 35)).alloc (.cells #[.slice (some x) k c, .slice (some ⟨w2.heap.size, 0, none⟩) 1 1, .slice (some (x.add (k * 3))) (n - k - 1) (0)] 24)) := below_trans HB35.out ((Below.refl _ _).alloc (Nat.le_refl _) _)
          generalize hW1 : (w2.alloc (.cells #[.string f.name, .int .i64 f.size, .slice p f.spans.length cp] 35)).alloc (.cells #[.slice (some x) k c, .slice (some ⟨w2.heap.size, 0, none⟩) 1 1, .slice (some (x.add (k * 3))) (n - k - 1) (0)] 24) = W1 at hrows hbb
          have hdr : Below W1.heap.size W1 W1.drew := (Below.refl _ _).drew
          have HCon := Lib.hid (ConcatF_any [L.take k, [f], L.drop (k + 1)] (some ⟨w2.heap.size + 1, 0, none⟩) 3 3 W1.drew (RowsF.below hrows hdr) rfl (by decide) HSUM.out)
          generalize [L.take k, [f], L.drop (k + 1)].flatten = FF at HCon HX2 HFL HSM
          have HBR := Lib.hid (below_trans hbb hdr)
          clear hln hlt hb35 hrows hbb hdr
          go_wp2
          go_region_law
            (first
              | (go_simp; go_at_call 42; refine HCon.out.mono ?_; rintro e w5 ⟨a5, c5, rfl, hf5, hb5⟩; have hq5 := hb5; have HB5 := Lib.hid (below_trans HBR.out hq5); have HT5 := Lib.hid (told_files _ a5 _ c5 w5 hf5 rfl HFL.out HSM.out); clear hf5 hb5 hq5)
              | (go_simp; go_at_call 41; refine HT5.out.mono ?_; rintro e w6 ⟨v6, R6, rfl, hR6, hc6⟩; obtain ⟨a6, c6, rfl⟩ := hc6.slice 0 rfl; have HF6 := Lib.hid (files_own (rest := []) (by rw [List.append_nil]; exact hc6.own 0 rfl) (hc6.spans 1 rfl)); have HB6 := Lib.hid (below_trans HB5.out hc6.bel); have HR6 := Lib.hid hR6; clear hc6 hR6))
          all_goals
            simp only [List.getElem_toArray, List.getElem_cons_succ, List.getElem_cons_zero, Act.put, List.setIfInBounds_toArray, List.set_cons_succ, List.set_cons_zero]
            have hfin : FilesRead (withL L f) w (.returned (.slice a6 FF.length c6)) w6 := by
              rw [HX2.out]
              have h := HF6.out
              rw [HR6.out] at h
              exact ⟨a6, c6, rfl, h, HB6.out⟩
            have HFIN := Lib.hid hfin
            clear hfin HF6 HR6 HT5
            go_wp2
            go_ret
            exact HFIN.out
        · have HZ : Hid (∀ W, Below w.heap.size w W → FilesAt W (some ⟨(x.add (k * 3)).block, (x.add (k * 3)).off + 3, none⟩) (L.drop (k + 1))) := fun W hW => by
            have := files_drop (HF.out W hW) (k + 1)
            rw [show (k + 1) * 3 = k * 3 + (2 + 1) by omega, add_spelt] at this
            exact this
          have HX2 : Hid (withL L f = [L.take k, [f], L.drop (k + 1)].flatten) := by unfold Hid; rw [HX.out]; simp
          have hln : (L.drop (k + 1)).length = n - k - 1 := by have := HL.out; rw [List.length_drop]; omega
          have hlt : (L.take k).length = k := by have := HL.out; rw [List.length_take]; omega
          have HLN := Lib.hid hln
          have HLT := Lib.hid hlt
          have HSUM : Hid (([L.take k, [f], L.drop (k + 1)].map List.length).sum ≤ 100000) := by unfold Hid; simp only [List.map_cons, List.map_nil, List.sum_cons, List.sum_nil, List.length_cons, List.length_nil]; omega
          have HFL : Hid ([L.take k, [f], L.drop (k + 1)].flatten.length ≤ 1000) := by
            unfold Hid
            have := hlt
            have := hln
            simp only [List.flatten_cons, List.flatten_nil, List.length_append, List.length_cons, List.length_nil]
            omega
          have HSM : Hid (∀ g ∈ [L.take k, [f], L.drop (k + 1)].flatten, g.spans.length ≤ 8796093022208) := fun g hg => by
            simp only [List.flatten_cons, List.flatten_nil, List.mem_append, List.mem_singleton, List.append_nil] at hg
            rcases hg with hg | rfl | hg
            · exact HS.out g (List.mem_of_mem_take hg)
            · exact HSZ.out
            · exact HS.out g (List.mem_of_mem_drop hg)
          have d0 := (HC2.out.at 0 rfl (j := 0) rfl).1
          have d1 := (HC2.out.at 0 rfl (j := 1) rfl).1
          have d2 := (HC2.out.at 0 rfl (j := 2) rfl).1
          have hb35 := (Below.refl w2.heap.size w2).alloc (Nat.le_refl _) (.cells #[.string f.name, .int .i64 f.size, .slice p f.spans.length cp] 35)
          have HB35 := Lib.hid (below_trans HC2.out.bel hb35)
          have hrows := rows_three (W := w2.alloc (.cells #[.string f.name, .int .i64 f.size, .slice p f.spans.length cp] 35)) (p := some x) (q := some ⟨w2.heap.size, 0, none⟩) (r := some ⟨(x.add (k * 3)).block, (x.add (k * 3)).off + 3, none⟩) (l := k) (m := 1) (n := n - k - 1) (c := c) (d := 1) (e := c - k - 1) (files_take (HF.out _ HB35.out) k) (files_one (HFS.out _ HC2.out.bel)) (HZ.out _ HB35.out) hlt rfl hln
          rw [World.size_alloc] at hrows
          have hbb : Below w.heap.size w ((w2.alloc (.cells #[.string f.name, .int .i64 f.size, .slice p f.spans.length cp] 35)).alloc (.cells #[.slice (some x) k c, .slice (some ⟨w2.heap.size, 0, none⟩) 1 1, .slice (some ⟨(x.add (k * 3)).block, (x.add (k * 3)).off + 3, none⟩) (n - k - 1) (c - k - 1)] 24)) := below_trans HB35.out ((Below.refl _ _).alloc (Nat.le_refl _) _)
          generalize hW1 : (w2.alloc (.cells #[.string f.name, .int .i64 f.size, .slice p f.spans.length cp] 35)).alloc (.cells #[.slice (some x) k c, .slice (some ⟨w2.heap.size, 0, none⟩) 1 1, .slice (some ⟨(x.add (k * 3)).block, (x.add (k * 3)).off + 3, none⟩) (n - k - 1) (c - k - 1)] 24) = W1 at hrows hbb
          have hdr : Below W1.heap.size W1 W1.drew := (Below.refl _ _).drew
          have HCon := Lib.hid (ConcatF_any [L.take k, [f], L.drop (k + 1)] (some ⟨w2.heap.size + 1, 0, none⟩) 3 3 W1.drew (RowsF.below hrows hdr) rfl (by decide) HSUM.out)
          generalize [L.take k, [f], L.drop (k + 1)].flatten = FF at HCon HX2 HFL HSM
          have HBR := Lib.hid (below_trans hbb hdr)
          clear hln hlt hb35 hrows hbb hdr
          go_wp2
          go_region_law
            (first
              | (go_simp; go_at_call 42; refine HCon.out.mono ?_; rintro e w5 ⟨a5, c5, rfl, hf5, hb5⟩; have hq5 := hb5; have HB5 := Lib.hid (below_trans HBR.out hq5); have HT5 := Lib.hid (told_files _ a5 _ c5 w5 hf5 rfl HFL.out HSM.out); clear hf5 hb5 hq5)
              | (go_simp; go_at_call 41; refine HT5.out.mono ?_; rintro e w6 ⟨v6, R6, rfl, hR6, hc6⟩; obtain ⟨a6, c6, rfl⟩ := hc6.slice 0 rfl; have HF6 := Lib.hid (files_own (rest := []) (by rw [List.append_nil]; exact hc6.own 0 rfl) (hc6.spans 1 rfl)); have HB6 := Lib.hid (below_trans HB5.out hc6.bel); have HR6 := Lib.hid hR6; clear hc6 hR6))
          all_goals
            simp only [List.getElem_toArray, List.getElem_cons_succ, List.getElem_cons_zero, Act.put, List.setIfInBounds_toArray, List.set_cons_succ, List.set_cons_zero]
            have hfin : FilesRead (withL L f) w (.returned (.slice a6 FF.length c6)) w6 := by
              rw [HX2.out]
              have h := HF6.out
              rw [HR6.out] at h
              exact ⟨a6, c6, rfl, h, HB6.out⟩
            have HFIN := Lib.hid hfin
            clear hfin HF6 HR6 HT5
            go_wp2
            go_ret
            exact HFIN.out
      | false =>
        clear hb1 HBT HBel HR
        by_cases hck : c = k
        · obtain rfl : k = c := hck.symm
          have HZ : Hid (∀ W, Below w.heap.size w W → FilesAt W (some x) (L.drop k)) := fun W _ => by
            rw [List.drop_of_length_le (by have := HL.out; omega)]
            intro i hi
            simp at hi
          have HX2 : Hid (withL L f = [L.take k, [f], L.drop k].flatten) := by unfold Hid; rw [HX.out]; simp
          have hln : (L.drop k).length = 0 := by have := HL.out; rw [List.length_drop]; omega
          have hlt : (L.take k).length = k := by have := HL.out; rw [List.length_take]; omega
          have HLN := Lib.hid hln
          have HLT := Lib.hid hlt
          have HSUM : Hid (([L.take k, [f], L.drop k].map List.length).sum ≤ 100000) := by unfold Hid; simp only [List.map_cons, List.map_nil, List.sum_cons, List.sum_nil, List.length_cons, List.length_nil]; omega
          have HFL : Hid ([L.take k, [f], L.drop k].flatten.length ≤ 1000) := by
            unfold Hid
            have := hlt
            have := hln
            simp only [List.flatten_cons, List.flatten_nil, List.length_append, List.length_cons, List.length_nil]
            omega
          have HSM : Hid (∀ g ∈ [L.take k, [f], L.drop k].flatten, g.spans.length ≤ 8796093022208) := fun g hg => by
            simp only [List.flatten_cons, List.flatten_nil, List.mem_append, List.mem_singleton, List.append_nil] at hg
            rcases hg with hg | rfl | hg
            · exact HS.out g (List.mem_of_mem_take hg)
            · exact HSZ.out
            · exact HS.out g (List.mem_of_mem_drop hg)
          have d0 := (HC2.out.at 0 rfl (j := 0) rfl).1
          have d1 := (HC2.out.at 0 rfl (j := 1) rfl).1
          have d2 := (HC2.out.at 0 rfl (j := 2) rfl).1
          have hb35 := (Below.refl w2.heap.size w2).alloc (Nat.le_refl _) (.cells #[.string f.name, .int .i64 f.size, .slice p f.spans.length cp] 35)
          have HB35 := Lib.hid (below_trans HC2.out.bel hb35)
          have hrows := rows_three (W := w2.alloc (.cells #[.string f.name, .int .i64 f.size, .slice p f.spans.length cp] 35)) (p := some x) (q := some ⟨w2.heap.size, 0, none⟩) (r := some x) (l := k) (m := 1) (n := 0) (c := k) (d := 1) (e := 0) (files_take (HF.out _ HB35.out) k) (files_one (HFS.out _ HC2.out.bel)) (HZ.out _ HB35.out) hlt rfl hln
          rw [World.size_alloc] at hrows
          have hbb : Below w.heap.size w ((w2.alloc (.cells #[.string f.name, .int .i64 f.size, .slice p f.spans.length cp] 35)).alloc (.cells #[.slice (some x) k k, .slice (some ⟨w2.heap.size, 0, none⟩) 1 1, .slice (some x) 0 0] 24)) := below_trans HB35.out ((Below.refl _ _).alloc (Nat.le_refl _) _)
          generalize hW1 : (w2.alloc (.cells #[.string f.name, .int .i64 f.size, .slice p f.spans.length cp] 35)).alloc (.cells #[.slice (some x) k k, .slice (some ⟨w2.heap.size, 0, none⟩) 1 1, .slice (some x) 0 0] 24) = W1 at hrows hbb
          have hdr : Below W1.heap.size W1 W1.drew := (Below.refl _ _).drew
          have HCon := Lib.hid (ConcatF_any [L.take k, [f], L.drop k] (some ⟨w2.heap.size + 1, 0, none⟩) 3 3 W1.drew (RowsF.below hrows hdr) rfl (by decide) HSUM.out)
          generalize [L.take k, [f], L.drop k].flatten = FF at HCon HX2 HFL HSM
          have HBR := Lib.hid (below_trans hbb hdr)
          clear hln hlt hb35 hrows hbb hdr
          go_wp2
          go_region_law
            (first
              | (go_simp; go_at_call 42; refine HCon.out.mono ?_; rintro e w5 ⟨a5, c5, rfl, hf5, hb5⟩; have hq5 := hb5; have HB5 := Lib.hid (below_trans HBR.out hq5); have HT5 := Lib.hid (told_files _ a5 _ c5 w5 hf5 rfl HFL.out HSM.out); clear hf5 hb5 hq5)
              | (go_simp; go_at_call 41; refine HT5.out.mono ?_; rintro e w6 ⟨v6, R6, rfl, hR6, hc6⟩; obtain ⟨a6, c6, rfl⟩ := hc6.slice 0 rfl; have HF6 := Lib.hid (files_own (rest := []) (by rw [List.append_nil]; exact hc6.own 0 rfl) (hc6.spans 1 rfl)); have HB6 := Lib.hid (below_trans HB5.out hc6.bel); have HR6 := Lib.hid hR6; clear hc6 hR6))
          all_goals
            simp only [List.getElem_toArray, List.getElem_cons_succ, List.getElem_cons_zero, Act.put, List.setIfInBounds_toArray, List.set_cons_succ, List.set_cons_zero]
            have hfin : FilesRead (withL L f) w (.returned (.slice a6 FF.length c6)) w6 := by
              rw [HX2.out]
              have h := HF6.out
              rw [HR6.out] at h
              exact ⟨a6, c6, rfl, h, HB6.out⟩
            have HFIN := Lib.hid hfin
            clear hfin HF6 HR6 HT5
            go_wp2
            go_ret
            exact HFIN.out
        · have HZ : Hid (∀ W, Below w.heap.size w W → FilesAt W (some (x.add (k * 3))) (L.drop k)) := fun W hW => files_drop (HF.out W hW) k
          have HX2 : Hid (withL L f = [L.take k, [f], L.drop k].flatten) := by unfold Hid; rw [HX.out]; simp
          have hln : (L.drop k).length = n - k := by have := HL.out; rw [List.length_drop]; omega
          have hlt : (L.take k).length = k := by have := HL.out; rw [List.length_take]; omega
          have HLN := Lib.hid hln
          have HLT := Lib.hid hlt
          have HSUM : Hid (([L.take k, [f], L.drop k].map List.length).sum ≤ 100000) := by unfold Hid; simp only [List.map_cons, List.map_nil, List.sum_cons, List.sum_nil, List.length_cons, List.length_nil]; omega
          have HFL : Hid ([L.take k, [f], L.drop k].flatten.length ≤ 1000) := by
            unfold Hid
            have := hlt
            have := hln
            simp only [List.flatten_cons, List.flatten_nil, List.length_append, List.length_cons, List.length_nil]
            omega
          have HSM : Hid (∀ g ∈ [L.take k, [f], L.drop k].flatten, g.spans.length ≤ 8796093022208) := fun g hg => by
            simp only [List.flatten_cons, List.flatten_nil, List.mem_append, List.mem_singleton, List.append_nil] at hg
            rcases hg with hg | rfl | hg
            · exact HS.out g (List.mem_of_mem_take hg)
            · exact HSZ.out
            · exact HS.out g (List.mem_of_mem_drop hg)
          have d0 := (HC2.out.at 0 rfl (j := 0) rfl).1
          have d1 := (HC2.out.at 0 rfl (j := 1) rfl).1
          have d2 := (HC2.out.at 0 rfl (j := 2) rfl).1
          have hb35 := (Below.refl w2.heap.size w2).alloc (Nat.le_refl _) (.cells #[.string f.name, .int .i64 f.size, .slice p f.spans.length cp] 35)
          have HB35 := Lib.hid (below_trans HC2.out.bel hb35)
          have hrows := rows_three (W := w2.alloc (.cells #[.string f.name, .int .i64 f.size, .slice p f.spans.length cp] 35)) (p := some x) (q := some ⟨w2.heap.size, 0, none⟩) (r := some (x.add (k * 3))) (l := k) (m := 1) (n := n - k) (c := c) (d := 1) (e := c - k) (files_take (HF.out _ HB35.out) k) (files_one (HFS.out _ HC2.out.bel)) (HZ.out _ HB35.out) hlt rfl hln
          rw [World.size_alloc] at hrows
          have hbb : Below w.heap.size w ((w2.alloc (.cells #[.string f.name, .int .i64 f.size, .slice p f.spans.length cp] 35)).alloc (.cells #[.slice (some x) k c, .slice (some ⟨w2.heap.size, 0, none⟩) 1 1, .slice (some (x.add (k * 3))) (n - k) (c - k)] 24)) := below_trans HB35.out ((Below.refl _ _).alloc (Nat.le_refl _) _)
          generalize hW1 : (w2.alloc (.cells #[.string f.name, .int .i64 f.size, .slice p f.spans.length cp] 35)).alloc (.cells #[.slice (some x) k c, .slice (some ⟨w2.heap.size, 0, none⟩) 1 1, .slice (some (x.add (k * 3))) (n - k) (c - k)] 24) = W1 at hrows hbb
          have hdr : Below W1.heap.size W1 W1.drew := (Below.refl _ _).drew
          have HCon := Lib.hid (ConcatF_any [L.take k, [f], L.drop k] (some ⟨w2.heap.size + 1, 0, none⟩) 3 3 W1.drew (RowsF.below hrows hdr) rfl (by decide) HSUM.out)
          generalize [L.take k, [f], L.drop k].flatten = FF at HCon HX2 HFL HSM
          have HBR := Lib.hid (below_trans hbb hdr)
          clear hln hlt hb35 hrows hbb hdr
          go_wp2
          go_region_law
            (first
              | (go_simp; go_at_call 42; refine HCon.out.mono ?_; rintro e w5 ⟨a5, c5, rfl, hf5, hb5⟩; have hq5 := hb5; have HB5 := Lib.hid (below_trans HBR.out hq5); have HT5 := Lib.hid (told_files _ a5 _ c5 w5 hf5 rfl HFL.out HSM.out); clear hf5 hb5 hq5)
              | (go_simp; go_at_call 41; refine HT5.out.mono ?_; rintro e w6 ⟨v6, R6, rfl, hR6, hc6⟩; obtain ⟨a6, c6, rfl⟩ := hc6.slice 0 rfl; have HF6 := Lib.hid (files_own (rest := []) (by rw [List.append_nil]; exact hc6.own 0 rfl) (hc6.spans 1 rfl)); have HB6 := Lib.hid (below_trans HB5.out hc6.bel); have HR6 := Lib.hid hR6; clear hc6 hR6))
          all_goals
            simp only [List.getElem_toArray, List.getElem_cons_succ, List.getElem_cons_zero, Act.put, List.setIfInBounds_toArray, List.set_cons_succ, List.set_cons_zero]
            have hfin : FilesRead (withL L f) w (.returned (.slice a6 FF.length c6)) w6 := by
              rw [HX2.out]
              have h := HF6.out
              rw [HR6.out] at h
              exact ⟨a6, c6, rfl, h, HB6.out⟩
            have HFIN := Lib.hid hfin
            clear hfin HF6 HR6 HT5
            go_wp2
            go_ret
            exact HFIN.out

end Go.Proofs.Yteellffkjjllgaa
