/-
  The small words of the statements on directories: files as the document has them, whether files are the same, whether they are few, how many sectors. Conditions: as each theorem states them.
-/
import Derived.Test.YteellffkjjllgaaGreatQDrWith
namespace Go.Rc7
open Go.Rc5

structure Small (L : List Fl) : Prop where
  many : L.length ≤ 130
  name : ∀ f ∈ L, f.name.size ≤ 150
  spans : ∀ f ∈ L, f.spans.length ≤ 210


theorem small_of {L : List Fl} (h1 : L.length ≤ 130) (h : ∀ j, j < L.length → (L.getD j default).name.size ≤ 150 ∧ (L.getD j default).spans.length ≤ 210) : Small L := by
  refine ⟨h1, fun f hf => ?_, fun f hf => ?_⟩
  · obtain ⟨j, hj, rfl⟩ := mem_getD default hf
    exact (h j hj).1
  · obtain ⟨j, hj, rfl⟩ := mem_getD default hf
    exact (h j hj).2

theorem files_same {A B : List Fl} (hl : A.length = B.length) (h : ∀ j, j < A.length → A.getD j default = B.getD j default) : A = B := by
  apply List.ext_getElem hl
  intro j h1 h2
  have := h j h1
  simpa [List.getD_eq_getElem?_getD, h1, h2] using this

theorem fl_ext {f g : Fl} (h1 : f.name = g.name) (h2 : f.size = g.size) (h3 : f.spans = g.spans) : f = g := by
  cases f
  cases g
  simp only at h1 h2 h3
  rw [h1, h2, h3]

end Go.Rc7
namespace Go.Proofs.YteellffkjjllgaaGreat
open Go.RowKit Go.Rc5 Go.Rc6 Go.Rc7

/-- Whether files are few: if so, they are. -/
def SmallBack (L : List Fl) (w : World) (e : Ending) (w' : World) : Prop := (∃ b, e = .returned (.bool b) ∧ (b = true → Small L)) ∧ w' = w

set_option maxRecDepth 100000 in
set_option maxHeartbeats 4000000 in
theorem small_any (L : List Fl) (a : Option Addr) (n c : Nat) (w : World) (h : FilesAt w a L) (hl : L.length = n) :
    Calls Tryz.prog 5 #[.slice a n c] w (SmallBack L w) := by
  by_cases h1 : n ≤ 130
  · have h1' : ¬ (130 : Int) < n := by omega
    have HF := Lib.hid h
    have HL := Lib.hid hl
    clear h hl
    go_enter Tryz.func5, Tryz.ntmps5
    go_wp2
    go_loop [3] (fun i => ∃ k : Nat, i = .int .i64 k ∧ k ≤ n ∧ Hid (∀ j, j < k → (L.getD j default).name.size ≤ 150 ∧ (L.getD j default).spans.length ≤ 210)) (fun i => (n - intOf i).toNat)
    case atStart => exact ⟨0, rfl, Nat.zero_le _, fun j hj => absurd hj (Nat.not_lt_zero _)⟩
    case round =>
      obtain ⟨k, rfl, hk, hI⟩ := hrel
      by_cases hlt : k < n
      · have hltI : (k : Int) < n := by omega
        obtain ⟨x, rfl, c0, c1, p, cp, c2, _⟩ := HF.out k (by rw [HL.out]; exact hlt)
        have hst : (L.getD k default).name.size ≤ 150 → (L.getD k default).spans.length ≤ 210 → Hid (∀ j, j < k + 1 → (L.getD j default).name.size ≤ 150 ∧ (L.getD j default).spans.length ≤ 210) := fun h1 h2 j hj => by
          by_cases e : j = k
          · subst e
            exact ⟨h1, h2⟩
          · exact hI.out j (by omega)
        have HST := Lib.hid hst
        clear hst hI
        generalize L.getD k default = f at *
        generalize f.name = nm at *
        generalize f.spans.length = m at *
        by_cases g1 : nm.size ≤ 150
        · have g1' : ¬ (150 : Int) < nm.size := by omega
          by_cases g2 : m ≤ 210
          · have g2' : ¬ (210 : Int) < m := by omega
            have HN := Lib.hid (HST.out g1 g2)
            by_cases g3 : 20 < n
            · have g3' : (20 : Int) < n := by omega
              by_cases g4 : 10 < m
              · have g4' : (10 : Int) < m := by omega
                go_wp2
                go_ret
                exact ⟨⟨false, rfl, fun h => (by cases h)⟩, rfl⟩
              · have g4' : ¬ (10 : Int) < m := by omega
                go_wp2
                exact ⟨⟨k + 1, by go_num, by omega, HN.out⟩, by simp [intOf]; omega⟩
            · have g3' : ¬ (20 : Int) < n := by omega
              go_wp2
              exact ⟨⟨k + 1, by go_num, by omega, HN.out⟩, by simp [intOf]; omega⟩
          · have g2' : (210 : Int) < m := by omega
            go_wp2
            go_ret
            exact ⟨⟨false, rfl, fun h => (by cases h)⟩, rfl⟩
        · have g1' : (150 : Int) < nm.size := by omega
          go_wp2
          go_ret
          exact ⟨⟨false, rfl, fun h => (by cases h)⟩, rfl⟩
      · obtain rfl : k = n := by omega
        have hltI : ¬ (k : Int) < k := by omega
        have HSm : Hid (Small L) := small_of (by rw [HL.out]; exact h1) (by rw [HL.out]; exact hI.out)
        clear hI
        go_wp2
        go_ret
        exact ⟨⟨true, rfl, fun _ => HSm.out⟩, rfl⟩
  · have h1' : (130 : Int) < n := by omega
    clear h hl
    go_enter Tryz.func5, Tryz.ntmps5
    go_wp2
    go_ret
    exact ⟨⟨false, rfl, fun h => (by cases h)⟩, rfl⟩

theorem infoR : (Tryz.prog.info? 44).map (fun i => (i.zero, i.size, i.bytes)) = some (some (.agg #[.string ⟨#[]⟩, .int .i64 0, .slice none 0 0]), 3, 48) := by kernel_rfl

set_option maxRecDepth 100000 in
set_option maxHeartbeats 4000000 in
theorem as_any (L : List Fl) (a : Option Addr) (n c : Nat) (w : World) (h : FilesAt w a L) (hl : L.length = n) (hn : n ≤ 1000) :
    Calls Tryz.prog 6 #[.slice a n c] w (FilesRead L w) := by
  have HF := Lib.hid (fun W (hW : Below w.heap.size w W) => FilesAt.below h hW)
  have HF0 := Lib.hid h
  have HL := Lib.hid hl
  have HC := Lib.hid ((Crew.start w).nil 44 3)
  clear h hl
  go_enter Tryz.func6, Tryz.ntmps6
  go_wp2
  go_loopw [3, 4] (fun v i wr => ∃ (k : Nat) (R : List FR), i = .int .i64 k ∧ k ≤ n ∧ Hid (R.map (·.1) = L.take k ∧ ∀ r ∈ R, SpansAt w r.2.1 r.1.spans) ∧ Crew (fun _ => False) w [rowT 0 44 3 v k (filesC R)] wr) (fun _ i _ => (n - intOf i).toNat)
  case atStart => exact ⟨0, [], rfl, Nat.zero_le _, ⟨rfl, fun r hr => (by cases hr)⟩, HC.out⟩
  case round =>
    obtain ⟨k, R, rfl, hk, HI, HR⟩ := hrel
    clear HC
    by_cases hlt : k < n
    · have hltI : (k : Int) < n := by omega
      have hkl : k < L.length := by rw [HL.out]; exact hlt
      obtain ⟨x, rfl, e0, e1, p, cp, e2, hs⟩ := HF0.out k hkl
      have HJ : Hid ((R ++ [(L.getD k default, p, cp)]).map (·.1) = L.take (k + 1) ∧ ∀ r ∈ R ++ [(L.getD k default, p, cp)], SpansAt w r.2.1 r.1.spans) := by
        refine ⟨?_, fun r hr => ?_⟩
        · rw [List.map_append, HI.out.1, take_snoc L k default hkl]
          rfl
        · rw [List.mem_append, List.mem_singleton] at hr
          rcases hr with hr | rfl
          · exact HI.out.2 r hr
          · exact hs
      generalize L.getD k default = f at *
      have c0 : wr.drew.cell? (x.add (k * 3)) = some (.string f.name) := keeps HR.bel _ _ e0
      have c1 : wr.drew.cell? ⟨(x.add (k * 3)).block, (x.add (k * 3)).off + 1, none⟩ = some (.int .i64 f.size) := keeps HR.bel _ _ e1
      have c2 : wr.drew.cell? ⟨(x.add (k * 3)).block, (x.add (k * 3)).off + 2, none⟩ = some (.slice p f.spans.length cp) := keeps HR.bel _ _ e2
      have HE := Lib.hid (HR.below ((Below.refl _ wr).drew))
      clear HR hs e0 e1 e2 hkl
      go_wp2_with fail
      go_region_law
        (refine step_append_crew (HE.out.below ((Below.refl _ wr.drew).alloc (Nat.le_refl _) (.cells #[.string f.name, .int .i64 f.size, .slice p f.spans.length cp] 44))) 0 rfl (by rfl) (.tmp 11) (.tmp 28) 26 (by rfl) (.agg #[.string ⟨#[]⟩, .int .i64 0, .slice none 0 0]) 48 Tryz.underlying26 infoR rfl (by decide) (by simp [Act.eval]) ⟨wr.heap.size, 0, none⟩ 1 1 [.string f.name, .int .i64 f.size, .slice p f.spans.length cp] (by simp [Act.eval]) rfl (news_three wr.drew _ _ _ _) (by simp [Value.oneCell']) (by unfold maxLen; omega) (by omega) ?_; intro v' w3 hF; have HE3 := Lib.hid hF; clear hF)
      all_goals
        have HG : Hid (Crew (fun _ => False) w [rowT 0 44 3 v' (k + 1) (filesC (R ++ [(f, p, cp)]))] w3) := by
          unfold Hid
          rw [filesC_snoc]
          exact HE3.out
        clear HE3 HE c0 c1 c2
        simp only [List.getElem_toArray, List.getElem_cons_succ, List.getElem_cons_zero, Act.put, List.setIfInBounds_toArray, List.set_cons_succ, List.set_cons_zero]
        go_wp2
        exact ⟨⟨k + 1, R ++ [(f, p, cp)], by go_num, by omega, HJ, HG.out⟩, by simp [intOf]; omega⟩
    · obtain rfl : k = n := by omega
      have hltI : ¬ (k : Int) < k := by omega
      obtain ⟨a', c', rfl⟩ := HR.slice 0 rfl
      have HE := Lib.hid HR
      clear HR
      go_wp2
      go_ret
      have h1 := HI.out.1
      rw [List.take_of_length_le (Nat.le_of_eq HL.out)] at h1
      refine ⟨a', c', by rw [HL.out]; rfl, ?_, HE.out.bel⟩
      rw [← h1]
      exact files_own (rest := []) (by rw [List.append_nil]; exact HE.out.own 0 rfl) (fun r hr => SpansAt.below (HI.out.2 r hr) HE.out.bel)

end Go.Proofs.YteellffkjjllgaaGreat
