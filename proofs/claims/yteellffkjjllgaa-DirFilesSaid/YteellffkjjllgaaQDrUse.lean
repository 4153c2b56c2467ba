/-
  How many sectors a row of files uses, with a file more, or without one; what Put makes of a row, whatever it is. Conditions: as each theorem states them.
-/
import Derived.Test.YteellffkjjllgaaQDrShown
namespace Go.Rc7
open Go.Rc5 Go.Rc6

def su (L : List Fl) : Int := (L.map fun f => sumI f.spans).sum

theorem su_cons (f : Fl) (L : List Fl) : su (f :: L) = sumI f.spans + su L := by simp [su]
theorem su_nil : su [] = 0 := rfl
theorem su_append (L M : List Fl) : su (L ++ M) = su L + su M := by simp [su]

theorem su_used (L : List Fl) : sumI (usedL L) = su L := by
  induction L with
  | nil => rfl
  | cons f r ih =>
    have e : usedL (f :: r) = f.spans ++ usedL r := rfl
    rw [e, sumI_append, ih, su_cons]

theorem su_three (L : List Fl) (nm : ByteArray) : su L = su (L.filter fun g => lt g.name nm) + su (L.filter fun g => decide (g.name = nm)) + su (L.filter fun g => lt nm g.name) := by
  induction L with
  | nil => rfl
  | cons f r ih =>
    rw [su_cons, ih]
    by_cases h1 : lt f.name nm = true
    · simp only [List.filter_cons, h1, lt_asymm h1, decide_eq_false (lt_ne h1), if_true, if_false, su_cons, Bool.false_eq_true]
      omega
    · have h1' : lt f.name nm = false := by simpa using h1
      by_cases h2 : f.name = nm
      · have h3 : lt nm f.name = false := by rw [h2, lt_irrefl]
        simp only [List.filter_cons, h1', h3, decide_eq_true h2, if_true, if_false, su_cons, Bool.false_eq_true]
        omega
      · have h3 : lt nm f.name = true := lt_tri h1' h2
        simp only [List.filter_cons, h1', h3, decide_eq_false h2, if_true, if_false, su_cons, Bool.false_eq_true]
        omega

theorem su_two (L : List Fl) (nm : ByteArray) : su L = su (withoutL L nm) + su (L.filter fun g => decide (g.name = nm)) := by
  unfold withoutL
  induction L with
  | nil => rfl
  | cons f r ih =>
    rw [su_cons, ih]
    by_cases h2 : f.name = nm
    · rw [List.filter_cons_of_neg (by simp [h2]), List.filter_cons_of_pos (by simpa using h2), su_cons]
      omega
    · rw [List.filter_cons_of_pos (by simp [h2]), List.filter_cons_of_neg (by simpa using h2), su_cons]
      omega

theorem eq_find {L : List Fl} (h : Rises (L.map (·.name))) (nm : ByteArray) : (L.filter fun g => decide (g.name = nm)) = (findL L nm).toList := by
  unfold findL
  induction L with
  | nil => rfl
  | cons f r ih =>
    have hr := List.pairwise_cons.1 h
    by_cases h2 : f.name = nm
    · rw [List.filter_cons_of_pos (by simpa using h2), List.find?_cons_of_pos (by simpa using h2)]
      have : (r.filter fun g => decide (g.name = nm)) = [] := List.filter_eq_nil_iff.2 (fun g hg => by
        have h3 : f.name ≠ g.name := lt_ne (hr.1 g.name (List.mem_map.2 ⟨g, hg, rfl⟩))
        rw [h2] at h3
        simpa using fun e => h3 e.symm)
      rw [this]
      rfl
    · rw [List.filter_cons_of_neg (by simpa using h2), List.find?_cons_of_neg (by simpa using h2)]
      exact ih hr.2

/-- How many sectors a file has that may be there. -/
def lessL (o : Option Fl) : Int := match o with
  | some f => sumI f.spans
  | none => 0

theorem su_less {L : List Fl} (h : Rises (L.map (·.name))) (nm : ByteArray) : su (L.filter fun g => decide (g.name = nm)) = lessL (findL L nm) := by
  rw [eq_find h]
  cases findL L nm with
  | none => rfl
  | some f => simp [su, lessL]

theorem use_with {L : List Fl} (h : Rises (L.map (·.name))) (f : Fl) : sumI (usedL (withL L f)) = sumI (usedL L) + sumI f.spans - lessL (findL L f.name) := by
  rw [su_used, su_used, ← su_less h, su_three L f.name]
  unfold withL
  rw [su_append, su_cons]
  omega

theorem use_without {L : List Fl} (h : Rises (L.map (·.name))) (nm : ByteArray) : sumI (usedL (withoutL L nm)) = sumI (usedL L) - lessL (findL L nm) := by
  rw [su_used, su_used, ← su_less h, su_two L nm]
  omega

theorem mem_with {L : List Fl} {f g : Fl} (h : g ∈ withL L f) : g = f ∨ g ∈ L := by
  unfold withL at h
  rw [List.mem_append, List.mem_cons] at h
  rcases h with h | h | h
  · exact .inr (List.mem_filter.1 h).1
  · exact .inl h
  · exact .inr (List.mem_filter.1 h).1

theorem mem_without {L : List Fl} {nm : ByteArray} {g : Fl} (h : g ∈ withoutL L nm) : g ∈ L := (List.mem_filter.1 h).1

theorem with_length (L : List Fl) (f : Fl) : (withL L f).length ≤ L.length + 1 := by
  unfold withL
  rw [List.length_append, List.length_cons]
  have : ∀ M : List Fl, (M.filter fun g => lt g.name f.name).length + (M.filter fun g => lt f.name g.name).length ≤ M.length := by
    intro M
    induction M with
    | nil => simp
    | cons g r ih =>
      by_cases h1 : lt g.name f.name = true
      · simp only [List.filter_cons, h1, lt_asymm h1, if_true, if_false, Bool.false_eq_true, List.length_cons]
        omega
      · have h1' : lt g.name f.name = false := by simpa using h1
        by_cases h2 : lt f.name g.name = true
        · simp only [List.filter_cons, h1', h2, if_true, if_false, Bool.false_eq_true, List.length_cons]
          omega
        · have h2' : lt f.name g.name = false := by simpa using h2
          simp only [List.filter_cons, h1', h2', if_false, Bool.false_eq_true, List.length_cons]
          omega
  have := this L
  omega

theorem used_small {M : List Fl} (h : ∀ g ∈ M, Well g) : (∀ s ∈ usedL M, 0 ≤ s.2 ∧ s.2 < 65536) ∧ ((M.map (·.spans)).map List.length).sum ≤ 200 * M.length ∧ (usedL M).length ≤ 200 * M.length := by
  have h2 : ((M.map (·.spans)).map List.length).sum ≤ 200 * M.length := by
    induction M with
    | nil => simp
    | cons f r ih =>
      have := (h f List.mem_cons_self).many
      have := ih (fun g hg => h g (List.mem_cons_of_mem _ hg))
      simp only [List.map_cons, List.sum_cons, List.length_cons] at *
      omega
  refine ⟨fun s hs => ?_, h2, ?_⟩
  · unfold usedL at hs
    rw [List.mem_flatten] at hs
    obtain ⟨S, hS, hsS⟩ := hs
    obtain ⟨f, hf, rfl⟩ := List.mem_map.1 hS
    have := (h f hf).span s hsS
    omega
  · unfold usedL
    rw [List.length_flatten]
    exact h2

end Go.Rc7
namespace Go.Proofs.Yteellffkjjllgaa
open Go.RowKit Go.Rc5 Go.Rc6 Go.Rc7

/-- What Put makes of a row that came in: its bytes, or what is wrong. -/
theorem IsFiles.put {w : World} {a : Option Addr} {n c : Nat} {L : List Fl} (h : IsFiles w a n c L) : ∃ (P : ByteArray) (x : Int), (∀ W, Below w.heap.size w W → Calls Try.prog 23 #[.slice a n c] W fun e w' => e = .returned (.tuple #[.string P, .int .i64 x]) ∧ Below W.heap.size W w') ∧ ((x = 0 ∧ Dir L ∧ P = dirB L) ∨ (x = 1 ∧ ¬ Dir L)) := by
  by_cases hd : Dir L
  · exact ⟨dirB L, 0, fun W hW => Put_yes L a n c W (FilesAt.below h.at_ hW) h.size hd, .inl ⟨rfl, hd, rfl⟩⟩
  · exact ⟨⟨#[]⟩, 1, fun W hW => Put_no L h.ok a n c W (FilesAt.below h.at_ hW) h.size hd, .inr ⟨rfl, hd⟩⟩

theorem IsFile.one {w : World} {p : Option Addr} {f : Fl} (h : IsFile w p f) (c : Nat) {W : World} (hW : Below w.heap.size w W) : IsFiles (W.alloc (.cells #[.string f.name, .int .i64 f.size, .slice p f.spans.length c] 35)) (some ⟨W.heap.size, 0, none⟩) 1 1 [f] :=
  ⟨rfl, Nat.le_refl _, files_one (SpansAt.below h.at_ hW), fun g hg => by rw [List.mem_singleton] at hg; exact hg ▸ h.ok⟩

end Go.Proofs.Yteellffkjjllgaa
