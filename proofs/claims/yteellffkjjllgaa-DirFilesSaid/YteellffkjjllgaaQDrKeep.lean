/-
  A right directory with a file put in, or left out: it is right still, and what is found in it. Conditions: as each theorem states them.
-/
import Derived.Test.YteellffkjjllgaaQDrUse
import Derived.Deep.CutRange
import Derived.Deep.RegionHeld3
namespace Go.Rc7
open Go.Rc5 Go.Rc6

theorem rises_names {L : List Fl} : Rises (L.map (·.name)) ↔ L.Pairwise fun a b => lt a.name b.name = true := by
  unfold Rises
  exact List.pairwise_map

theorem rises_with {L : List Fl} (h : Rises (L.map (·.name))) (f : Fl) : Rises ((withL L f).map (·.name)) := by
  rw [rises_names] at h ⊢
  unfold withL
  rw [List.pairwise_append, List.pairwise_cons]
  refine ⟨h.filter _, ⟨fun g hg => (List.mem_filter.1 hg).2, h.filter _⟩, fun a ha b hb => ?_⟩
  have h1 : lt a.name f.name = true := (List.mem_filter.1 ha).2
  rcases List.mem_cons.1 hb with rfl | hb
  · exact h1
  · exact lt_trans h1 (List.mem_filter.1 hb).2

theorem dir_with {L : List Fl} {f : Fl} (h : Dir L) (hf : Well f) (hl : L.length < 120) : Dir (withL L f) :=
  ⟨by have := with_length L f; omega, rises_with h.rises f, fun _ hg => (mem_with hg).elim (fun e => e ▸ hf) (h.well _)⟩

theorem without_length (L : List Fl) (nm : ByteArray) : (withoutL L nm).length ≤ L.length := List.length_filter_le _ _

theorem dir_without {L : List Fl} (h : Dir L) (nm : ByteArray) : Dir (withoutL L nm) :=
  ⟨Nat.le_trans (without_length L nm) h.many, by
    have := h.rises
    rw [rises_names] at this ⊢
    exact this.filter _, fun _ hg => h.well _ (mem_without hg)⟩

theorem find_of {L : List Fl} {g : Fl} (h : Rises (L.map (·.name))) (hg : g ∈ L) : findL L g.name = some g := by
  have h1 := eq_find h g.name
  cases hf : findL L g.name with
  | none => exact absurd (List.find?_eq_none.1 hf g hg) (by simp)
  | some k =>
    rw [hf] at h1
    have h2 : g ∈ (L.filter fun x => decide (x.name = g.name)) := List.mem_filter.2 ⟨hg, by simp⟩
    rw [h1] at h2
    rw [List.mem_singleton.1 h2]

theorem mem_with_self (L : List Fl) (f : Fl) : f ∈ withL L f := by
  unfold withL
  exact List.mem_append.2 (.inr List.mem_cons_self)

theorem mem_with_of {L : List Fl} {f g : Fl} (hg : g ∈ L) (hn : g.name ≠ f.name) : g ∈ withL L f := by
  unfold withL
  cases h1 : lt g.name f.name with
  | true => exact List.mem_append.2 (.inl (List.mem_filter.2 ⟨hg, h1⟩))
  | false => exact List.mem_append.2 (.inr (List.mem_cons_of_mem _ (List.mem_filter.2 ⟨hg, lt_tri h1 hn⟩)))

theorem find_with {L : List Fl} (h : Rises (L.map (·.name))) (f : Fl) : findL (withL L f) f.name = some f := find_of (rises_with h f) (mem_with_self L f)

theorem find_other {L : List Fl} {f g : Fl} (h : Rises (L.map (·.name))) (hg : g ∈ L) (hn : g.name ≠ f.name) : findL (withL L f) g.name = some g := find_of (rises_with h f) (mem_with_of hg hn)

theorem find_without (L : List Fl) (nm : ByteArray) : findL (withoutL L nm) nm = none := by
  unfold findL withoutL
  rw [List.find?_eq_none]
  intro g hg
  simpa using (List.mem_filter.1 hg).2

theorem without_split {L : List Fl} (h : Rises (L.map (·.name))) (nm : ByteArray) : withoutL L nm = (L.filter fun g => lt g.name nm) ++ (L.filter fun g => lt nm g.name) := by
  rw [rises_names] at h
  unfold withoutL
  induction L with
  | nil => rfl
  | cons f r ih =>
    have hr := List.pairwise_cons.1 h
    have hi := ih hr.2
    by_cases h1 : lt f.name nm = true
    · rw [List.filter_cons_of_pos (by simpa using lt_ne h1), List.filter_cons_of_pos (p := fun g : Fl => lt g.name nm) h1, List.filter_cons_of_neg (by simp [lt_asymm h1]), hi, List.cons_append]
    · have h1' : lt f.name nm = false := by simpa using h1
      by_cases h2 : f.name = nm
      · have e : (r.filter fun g => lt g.name nm) = [] := List.filter_eq_nil_iff.2 (fun g hg => by
          have := lt_asymm (hr.1 g hg)
          rw [h2] at this
          simp [this])
        rw [List.filter_cons_of_neg (by simp [h2]), List.filter_cons_of_neg (by simp [h1']), List.filter_cons_of_neg (by simp [h2, lt_irrefl]), hi]
      · have h3 : lt nm f.name = true := lt_tri h1' h2
        have e : (r.filter fun g => lt g.name nm) = [] := List.filter_eq_nil_iff.2 (fun g hg => by
          have := lt_asymm (lt_trans h3 (hr.1 g hg))
          simp [this])
        rw [List.filter_cons_of_pos (by simpa using h2), List.filter_cons_of_neg (by simp [h1']), List.filter_cons_of_pos (p := fun g : Fl => lt nm g.name) h3, hi, e]
        rfl

theorem without_with {L : List Fl} (h : Rises (L.map (·.name))) (f : Fl) : withoutL (withL L f) f.name = withoutL L f.name := by
  rw [without_split h]
  unfold withL withoutL
  rw [List.filter_append, List.filter_cons_of_neg (by simp)]
  congr 1
  · rw [List.filter_filter]
    refine List.filter_congr (fun g _ => ?_)
    cases h1 : lt g.name f.name with
    | true => simp [lt_ne h1]
    | false => simp
  · rw [List.filter_filter]
    refine List.filter_congr (fun g _ => ?_)
    cases h1 : lt f.name g.name with
    | true => simpa using (lt_ne h1).symm
    | false => simp

/-- With a file put in there is one more than without it. -/
theorem with_without_length {L : List Fl} (h : Rises (L.map (·.name))) (f : Fl) : (withL L f).length = (withoutL L f.name).length + 1 := by
  rw [without_split h]
  unfold withL
  rw [List.length_append, List.length_append, List.length_cons]
  omega

end Go.Rc7
namespace Go.Proofs.Yteellffkjjllgaa
open Go.RowKit Go.Rc5 Go.Rc7

open Classical in
theorem same_one {f : Fl} {a b : Option Addr} {ca cb : Nat} {w : World} (hA : FilesAt w a [f]) (hB : FilesAt w b [f]) (hs : f.spans.length ≤ 1000000) :
    Calls Try.prog 13 #[.slice a 1 ca, .slice b 1 cb] w fun e w' => e = .returned (.bool true) ∧ Below w.heap.size w w' := by
  have h := files_same_any [f] [f] a b ca cb 1 1 w hA hB rfl rfl (by decide) (fun g hg => by rw [List.mem_singleton.1 hg]; exact hs)
  rw [decide_eq_true (rfl : [f] = [f])] at h
  exact h

theorem slice_one (x : Addr) (n c k : Nat) (hk : k < n) (hn : n ≤ c) (W : World) : (Instr.sliceAt 24 (.slice (some x) n c) (some (.int .i64 (k : Int))) (some (.int .i64 ((k : Int) + 1))) none).run Try.prog W = .ok (.slice (some (x.add (k * 3))) 1 (c - k)) W := by
  have h0 : (0 : Int) ≤ k := by omega
  have h1 : (k : Int) ≤ (k : Int) + 1 := by omega
  have h2 : (k : Int) + 1 ≤ c := by omega
  have h3 : (0 : Int) ≤ (k : Int) + 1 := by omega
  have h4 : ¬ c = k := by omega
  have h5 : c - k ≠ 0 := by omega
  go_simp

open Classical in
theorem same_self {A : List Fl} {a b : Option Addr} {ca cb n : Nat} {w : World} (hA : FilesAt w a A) (hB : FilesAt w b A) (hl : A.length = n) (hn : n ≤ 1000000) (hs : ∀ f ∈ A, f.spans.length ≤ 1000000) :
    Calls Try.prog 13 #[.slice a n ca, .slice b n cb] w fun e w' => e = .returned (.bool true) ∧ Below w.heap.size w w' := by
  have h := files_same_any A A a b ca cb n n w hA hB hl hl hn hs
  rw [decide_eq_true (rfl : A = A)] at h
  exact h

theorem as_one {f : Fl} {a : Option Addr} {c : Nat} {w : World} (h : FilesAt w a [f]) :
    Calls Try.prog 15 #[.slice a 1 c] w fun e w' => ∃ b d, e = .returned (.slice b 1 d) ∧ FilesAt w' b [f] ∧ Below w.heap.size w w' :=
  as_any [f] a 1 c w h rfl (by decide)

theorem one_in {W0 W : World} {f : Fl} {q : Option Addr} {c : Nat} (h : SpansAt W0 q f.spans)
    (hb : Below (W0.alloc (.cells #[.string f.name, .int .i64 f.size, .slice q f.spans.length c] 35)).heap.size (W0.alloc (.cells #[.string f.name, .int .i64 f.size, .slice q f.spans.length c] 35)) W) :
    FilesAt W (some ⟨W0.heap.size, 0, none⟩) [f] := FilesAt.below (files_one h) hb

/-- Two rows of one file each, laid one behind the other. -/
theorem two_in {W0 : World} {f g : Fl} {p q : Option Addr} {c d : Nat} (hf : ∀ W, Below W0.heap.size W0 W → SpansAt W p f.spans) (hg : SpansAt W0 q g.spans) :
    FilesAt (((W0.alloc (.cells #[.string g.name, .int .i64 g.size, .slice q g.spans.length d] 35)).alloc (.cells #[.string f.name, .int .i64 f.size, .slice p f.spans.length c] 35)).drew) (some ⟨W0.heap.size + 1, 0, none⟩) [f] ∧
    FilesAt (((W0.alloc (.cells #[.string g.name, .int .i64 g.size, .slice q g.spans.length d] 35)).alloc (.cells #[.string f.name, .int .i64 f.size, .slice p f.spans.length c] 35)).drew) (some ⟨W0.heap.size, 0, none⟩) [g] ∧
    Below W0.heap.size W0 (((W0.alloc (.cells #[.string g.name, .int .i64 g.size, .slice q g.spans.length d] 35)).alloc (.cells #[.string f.name, .int .i64 f.size, .slice p f.spans.length c] 35)).drew) := by
  have h1 := (Below.refl W0.heap.size W0).alloc (Nat.le_refl _) (.cells #[.string g.name, .int .i64 g.size, .slice q g.spans.length d] 35)
  have h2 := ((Below.refl _ (W0.alloc (.cells #[.string g.name, .int .i64 g.size, .slice q g.spans.length d] 35))).alloc (Nat.le_refl _) (.cells #[.string f.name, .int .i64 f.size, .slice p f.spans.length c] 35)).drew
  refine ⟨?_, one_in hg h2, below_trans h1 h2⟩
  have h3 := one_in (W0 := W0.alloc (.cells #[.string g.name, .int .i64 g.size, .slice q g.spans.length d] 35)) (c := c) (hf _ h1) ((Below.refl _ _).drew)
  rw [World.size_alloc] at h3
  exact h3

end Go.Proofs.Yteellffkjjllgaa
