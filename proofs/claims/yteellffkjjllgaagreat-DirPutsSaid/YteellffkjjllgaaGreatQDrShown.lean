/-
  The chapter's example of a directory comes out true; files that come in. Condition: none.
-/
import Derived.Test.YteellffkjjllgaaGreatQDrHelpB
import Derived.Lib.SmallJoins
namespace Go.Rc7
open Go.Rc5 Go.Rc6

def flA : Fl := ⟨⟨#[97]⟩, 3, [(5, 1)]⟩

theorem wellA : Well flA := ⟨by kernel_rfl, by decide, by decide, by decide, [(5, 1)], rfl, ⟨by decide, by decide, trivial⟩, by decide, by decide⟩

theorem dirA : Dir [flA] := ⟨by decide, by simp [Rises], fun f hf => by rw [List.mem_singleton] at hf; exact hf ▸ wellA⟩

theorem bodyA : bodyT [flA] = [1, 1, 97, 3, 0, 0, 0, 1, 5, 0, 1, 0] := by kernel_rfl

end Go.Rc7
namespace Go.Proofs.YteellffkjjllgaaGreat
open Go.ChangeShapes Go.WideShapes Go.ChangeAt Go.RowKit Go.Rc5 Go.Rc6 Go.Rc7 Go.Deep

theorem filesA (w : World) : FilesAt ((w.alloc (.cells #[.int .i64 5, .int .i64 1] 38)).alloc (.cells #[.string ⟨#[97]⟩, .int .i64 3, .slice (some ⟨w.heap.size, 0, none⟩) 1 1] 40)) (some ⟨w.heap.size + 1, 0, none⟩) [flA] := by
  have hs : SpansAt (w.alloc (.cells #[.int .i64 5, .int .i64 1] 38)) (some ⟨w.heap.size, 0, none⟩) flA.spans := by
    intro i hi
    obtain rfl : i = 0 := by have : i < 1 := hi; omega
    refine ⟨_, rfl, ?_, ?_⟩
    · rw [add_own, World.cell?_alloc_new]; rfl
    · rw [add_own, World.cell?_alloc_new]; rfl
  have h := files_one (f := flA) (c := 1) hs
  rw [World.size_alloc] at h
  exact h

theorem shown_any (w : World) : Calls Tryz.prog 4 #[] w fun e w' => e = .returned (.bool true) ∧ Below w.heap.size w w' := by
  have HB0 := Lib.hid (((Below.refl _ w).alloc (Nat.le_refl _) (.cells #[.int .i64 5, .int .i64 1] 38)).trans ((((Below.refl _ (w.alloc (.cells #[.int .i64 5, .int .i64 1] 38))).alloc (Nat.le_refl _) (.cells #[.string ⟨#[97]⟩, .int .i64 3, .slice (some ⟨w.heap.size, 0, none⟩) 1 1] 40))).mono (by rw [World.size_alloc]; omega)))
  have HP := Lib.hid (Put_yes [flA] (some ⟨w.heap.size + 1, 0, none⟩) 1 1 _ (filesA w) rfl dirA)
  have hbz : (ByteArray.mk (bodyT [flA]).toArray).size + 4 ≤ 1000 := by rw [bodyA]; decide
  have HTS := Lib.hid (fun W => Take_sealed ⟨(bodyT [flA]).toArray⟩ (by unfold maxLen; omega) W)
  have hz : (dirB [flA]).size ≤ 1000000 := by unfold dirB; rw [sealed_size]; omega
  have HT := Lib.hid (fun W => Take_files (dirB [flA]) hz W)
  have HDI : Hid (∀ L, Dir L → dirB [flA] = dirB L → L = [flA]) := fun L hL h => (dir_inj dirA hL h).symm
  have HEX : Hid (∃ L, Dir L ∧ dirB [flA] = dirB L) := ⟨_, dirA, rfl⟩
  rw [show sealedB ⟨(bodyT [flA]).toArray⟩ = dirB [flA] from rfl] at HTS
  rw [bodyA] at HTS
  clear hz hbz
  generalize dirB [flA] = D at *
  go_enter Tryz.func4, Tryz.ntmps4
  go_wp2_with fail
  refine HP.out.mono ?_
  rintro e w1 ⟨rfl, hb1⟩
  replace HB0 := Lib.hid (HB0.out.trans (hb1.mono HB0.out.size))
  clear hb1 HP
  go_wp2_with fail
  refine (HTS.out _).mono ?_
  rintro e w2 ⟨rfl, hb2⟩
  replace HB0 := Lib.hid (below_trans HB0.out hb2)
  clear hb2 HTS
  go_wp2_with fail
  refine (HT.out _).mono ?_
  rintro e w3 hT
  rcases hT with ⟨L, a, c, hL, hD, rfl, hF, hb3⟩ | ⟨hno, _⟩
  · obtain rfl := HDI.out L hL hD
    obtain ⟨x, rfl, c0, _⟩ := hF 0 (by decide)
    replace HB0 := Lib.hid (below_trans HB0.out hb3)
    replace c0 : w3.cell? (x.add 0) = some (.string ⟨#[97]⟩) := c0
    rw [show x.add 0 = x from rfl] at c0
    clear hF hb3 hD hL HDI HEX
    go_wp2
    go_ret
    exact ⟨rfl, HB0.out⟩
  · exact absurd HEX.out hno

/-! ### What comes in -/

/-- What is known of a row of files that came in. -/
structure IsFiles (w : World) (a : Option Addr) (len cap : Nat) (L : List Fl) : Prop where
  size : L.length = len
  room : len ≤ cap
  at_ : FilesAt w a L
  ok : ∀ f ∈ L, FlOk f

theorem IsFiles.below {w w' : World} {a : Option Addr} {len cap : Nat} {L : List Fl} (h : IsFiles w a len cap L) (hb : Below w.heap.size w w') : IsFiles w' a len cap L :=
  ⟨h.size, h.room, FilesAt.below h.at_ hb, h.ok⟩

theorem open_files {H : Type} {enc : TypeId × Value → H} {w : World} {base : Nat} {spare : Nat → Bool} {held : Bool} {fuel : Nat} {a : Option Addr} {len cap : Nat} {x : DataW H × List MemPlace}
    (h : DataW.trod enc Tryz.prog w base spare held fuel 22 [.slice a len cap] = some x) : ∃ L, IsFiles w a len cap L := by
  obtain ⟨hlc, _, hi⟩ := field_cells (P := Tryz.prog) (fs := #[_, _, _]) Tryz.underlying22 Tryz.underlying40 (by kernel_rfl) (by kernel_rfl) h
  have key : ∀ i, ∃ f : Fl, (i < len → ∃ b, a = some b ∧ FileAt w (b.add (i * 3)) f) ∧ FlOk f := by
    intro i
    by_cases hlt : i < len
    · obtain ⟨b, n, hb, hf⟩ := hi i hlt
      obtain ⟨v0, y0, c0, t0⟩ := hf 0 _ rfl
      obtain ⟨v1, y1, c1, t1⟩ := hf 1 _ rfl
      obtain ⟨v2, y2, c2, t2⟩ := hf 2 _ rfl
      replace c0 : w.cell? (b.add (i * 3)) = _ := c0
      replace c1 : w.cell? (b.add (i * 3 + 1)) = _ := c1
      replace c2 : w.cell? (b.add (i * 3 + 2)) = _ := c2
      rw [show i * 3 + 1 = i * 3 + (0 + 1) from rfl, add_spelt] at c1
      rw [show i * 3 + 2 = i * 3 + (1 + 1) from rfl, add_spelt] at c2
      obtain ⟨s, e0, _, hs⟩ := DataW.trod_string Tryz.underlying9 t0
      obtain ⟨n1, e1, _, w1⟩ := DataW.trod_int Tryz.underlying3 t1
      obtain ⟨p, l, c, e2⟩ := Go.Joins.slice_form Tryz.underlying23 t2
      simp only [List.cons.injEq, and_true] at e0 e1 e2
      subst e0 e1 e2
      obtain ⟨S, hS⟩ := open_spans t2
      exact ⟨⟨s, n1, S⟩, fun _ => ⟨b, hb, c0, c1, p, c, by rw [show (⟨s, n1, S⟩ : Fl).spans.length = l from hS.1]; exact c2, hS.2.1⟩, ⟨by unfold maxLen at hs; omega, in64_of w1, hS.2.2⟩⟩
    · exact ⟨⟨.empty, 0, []⟩, fun h => absurd h hlt, ⟨by decide, ⟨by decide, by decide⟩, fun s hs => by cases hs⟩⟩
  refine ⟨(List.range len).map fun i => (key i).choose, by simp, hlc, fun i hi => ?_, fun f hf => ?_⟩
  · have hi' : i < len := by simpa using hi
    have e : ((List.range len).map fun i => (key i).choose).getD i default = (key i).choose := by
      simp [List.getD_eq_getElem?_getD, hi']
    rw [e]
    exact (key i).choose_spec.1 hi'
  · simp only [List.mem_map] at hf
    obtain ⟨i, _, rfl⟩ := hf
    exact (key i).choose_spec.2

/-- What is known of a file that came in. -/
structure IsFile (w : World) (p : Option Addr) (f : Fl) : Prop where
  at_ : SpansAt w p f.spans
  ok : FlOk f

set_option maxRecDepth 100000 in
theorem open_file {H : Type} {enc : TypeId × Value → H} {w : World} {base b0 : Nat} {spare : Nat → Bool} {held : Bool} {r : Reach} {v : Value} {d : DataW H} {q : List MemPlace}
    (hv : Value.okWide Tryz.prog w r b0 40 v) (h : DataW.Trod enc Tryz.prog w base spare held 40 v d q) :
    ∃ (f : Fl) (p : Option Addr) (c : Nat), v = .agg #[.string f.name, .int .i64 f.size, .slice p f.spans.length c] ∧ IsFile w p f := by
  obtain ⟨v0, v1, v2, y0, y1, y2, n, rfl, rfl, rfl, t0, t1, t2⟩ := Go.Joins.open_agg3 (P := Tryz.prog) Tryz.underlying40 (by kernel_rfl) (by kernel_rfl) hv h
  obtain ⟨s, e0, _, hs⟩ := DataW.trod_string Tryz.underlying9 t0
  obtain ⟨n1, e1, _, w1⟩ := DataW.trod_int Tryz.underlying3 t1
  obtain ⟨p, l, c, e2⟩ := Go.Joins.slice_form Tryz.underlying23 t2
  simp only [List.cons.injEq, and_true] at e0 e1 e2
  subst e0 e1 e2
  obtain ⟨S, hS⟩ := open_spans t2
  exact ⟨⟨s, n1, S⟩, p, c, by rw [show (⟨s, n1, S⟩ : Fl).spans.length = l from hS.1], hS.2.1, ⟨by unfold maxLen at hs; omega, in64_of w1, hS.2.2⟩⟩

end Go.Proofs.YteellffkjjllgaaGreat
