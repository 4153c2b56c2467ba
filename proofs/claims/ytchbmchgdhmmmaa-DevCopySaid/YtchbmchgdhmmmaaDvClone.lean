/-
  What Clone makes: a device just like it, in new memory. Conditions: the device lies in memory as DvBase says; at most 100000 writes are pending.
-/
import Derived.Test.YtchbmchgdhmmmaaDvPower
namespace Go.Proofs.Ytchbmchgdhmmmaa
open Go.RowKit Go.Rc4

/-- A device that was made: all that was there is as it was, and the device is in new memory. -/
def Made (T E base b : Nat) (d : DS) (w w' : World) : Prop := ∃ O, Dev T E base O b d w' ∧ Below w.heap.size w w' ∧ ∀ k, O k → w.heap.size ≤ k

def GotRow (E z n : Nat) (xs : List Value) (w : World) (e : Ending) (w' : World) : Prop := ∃ v, e = .returned v ∧ w'.ownsRow w.heap.size E z v n xs ∧ Below w.heap.size w w'

set_option maxHeartbeats 2000000 in
theorem Clone_writes {base n : Nat} {vp : Value} {xs : List Value} {w : World} (h : w.ownsRow base 66 2 vp n xs) (hn : n ≤ 100000) (h1 : ∀ u ∈ xs, u.oneCell' = true) :
    Calls Try.prog 32 #[vp] w (GotRow 66 2 n xs w) := by
  obtain ⟨i0, hi0, hz0, hz1, hz2⟩ := info_parts info66
  have q56 : ∀ (w : World) (a : Option Addr) (n c n' c' : Nat), (binOp .eql 56 (.slice a n c) (.slice none n' c')).run Try.prog w = .ok (.bool a.isNone) w := fun w a n c n' c' => Lib.run_eql_slice_nil w _ _ a n c n' c' Try.underlying56
  rcases h.2 with ⟨rfl, rfl⟩ | ⟨g, cap, cur, rfl, hbg, hg, hnc, hcm, hcs, htake⟩
  · obtain rfl : xs = [] := List.eq_nil_of_length_eq_zero (by simpa using h.1)
    clear h h1 hn
    go_enter Try.func32, Try.ntmps32
    go_wp2
    go_ret
    exact ⟨_, rfl, World.ownsRow_nil _ _ _ _, Below.refl _ _⟩
  · have hl : xs.length = n * 2 := h.1
    have HC := Lib.hid (fun j u (hu : xs[j]? = some u) => h.cells (g := g) rfl j u hu)
    have HL := Lib.hid hl
    have HX := Lib.hid h1
    have lg := (Array.getElem?_eq_some_iff.1 hg).1
    have hr := h.alloc (.cells #[] 66 (0, 0))
    have HC2 := Lib.hid (fun j u (hu : xs[j]? = some u) => hr.cells (g := g) rfl j u hu)
    clear h hl h1 hg htake hcs hr
    go_enter Try.func32, Try.ntmps32
    go_wp2_with (at_builtin; refine wpList_append_own _ rfl (.tmp 5) (.tmp 6) 56 rfl w.heap.size 66 i0 _ 2 24 Try.underlying56 hi0 hz0 hz1 hz2 rfl (by decide) _ 0 [] rfl (World.ownsRow_made w #[] 0 (Nat.le_refl _) (Nat.zero_le _) rfl) ⟨g, 0, none⟩ n cap xs rfl HL.out HC2.out HX.out ?b1 ?b2 ?b3 ?next)
    case b1 => unfold maxLen; omega
    case b2 => omega
    case b3 => simp
    case next =>
      intro v' w1 hown hgrow _
      have HO := Lib.hid hown
      have HG := Lib.hid hgrow
      clear hown hgrow
      go_wp2
      go_ret
      exact ⟨v', rfl, by simpa using HO.out, ((Below.refl _ w).alloc (Nat.le_refl _) _).grown HG.out (by simp) (by intro k hk; simp [Value.ownBlock] at hk; omega)⟩

def GotStrs (n : Nat) (l : List ByteArray) (w : World) (e : Ending) (w' : World) : Prop := ∃ g cap, e = .returned (.slice (some ⟨g, 0, none⟩) n cap) ∧ w'.ownsRow w.heap.size 9 1 (.slice (some ⟨g, 0, none⟩) n cap) n (strs l) ∧ Below w.heap.size w w'

theorem Clone_strs {base n g cap : Nat} {l : List ByteArray} {w : World} (h : w.ownsRow base 9 1 (.slice (some ⟨g, 0, none⟩) n cap) n (strs l)) (hn : n ≤ 8192) :
    Calls Try.prog 31 #[.slice (some ⟨g, 0, none⟩) n cap] w (GotStrs n l w) := by
  have hl : l.length = n := by have := h.1; rw [strs_length] at this; omega
  refine (Try.slices_Clone_string g 0 n cap l w (by omega) (by omega) ?_).mono ?_
  · intro j hj
    rw [Nat.zero_add]
    have := (own_cell h (strs_get l j hj)).1
    rw [this]
    simp [List.getD_eq_getElem?_getD, List.getElem?_eq_getElem hj]
  · rintro e w' ⟨v', rfl, ho, hv, hb⟩
    rw [List.take_of_length_le (by omega)] at ho
    rcases ho.2 with ⟨e, _⟩ | ⟨g', cap', cur, rfl, r⟩
    · exact absurd e hv
    · exact ⟨g', cap', rfl, ho, hb⟩

theorem flat_one (p : List (Nat × ByteArray)) : ∀ u ∈ flat p, u.oneCell' = true := by
  induction p with
  | nil => intro u hu; cases hu
  | cons x r ih =>
    intro u hu
    simp only [flat, List.mem_cons] at hu
    rcases hu with rfl | rfl | hu
    · rfl
    · rfl
    · exact ih u hu

set_option maxHeartbeats 4000000 in
theorem Clone_any {base b bs cs bf cf : Nat} {vp : Value} {d : DS} {w : World} (h : Dv 58 66 base b bs cs bf cf vp d w) (hs : d.s.length ≤ 8192) (hf : d.f.length = d.s.length) (hp : d.p.length ≤ 100000) :
    Calls Try.prog 13 #[.pointer (some ⟨b, 0, none⟩)] w fun e w' => e = .returned (.pointer (some ⟨w.heap.size, 0, none⟩)) ∧ Made 58 66 base w.heap.size d w w' := by
  obtain ⟨c0, c1, c2, c3, c4⟩ := h.cells
  have HD := Lib.hid (fun W (hb : Below w.heap.size w W) => h.below hb)
  have hbB := (h.lt b (.inl rfl)).2
  have hB := (h.lt b (.inl rfl)).1
  have HS := Lib.hid (fun W (hb : Below w.heap.size w W) => Clone_strs (h.below hb).rs hs)
  have HF := Lib.hid (fun W (hb : Below w.heap.size w W) => Clone_strs (h.below hb).rf (by omega))
  have HP := Lib.hid (fun W (hb : Below w.heap.size w W) => Clone_writes (h.below hb).rp hp (flat_one _))
  have hv : ∃ a n c, vp = .slice a n c := by obtain ⟨a, c, e⟩ := own_slice h.rp; exact ⟨a, _, c, e⟩
  obtain ⟨a, n, c, rfl⟩ := hv
  clear h hf hs hp
  go_enter Try.func13, Try.ntmps13
  go_wp2_with fail
  refine (HS.out _ ((Below.refl _ _).alloc (Nat.le_refl _) _)).mono ?_
  rintro e w1 ⟨g1, k1, rfl, ho1, hb1⟩
  have e1 : w1.heap[w.heap.size]? = _ := (hb1.block w.heap.size (by simp)).trans (heap_alloc_new w _)
  have n1 : w.heap.size < g1 := by have := (ho1.lt g1 rfl).1; simp at this; omega
  have B1 : Below w.heap.size w w1 := ((Below.refl _ w).alloc (Nat.le_refl _) _).trans (hb1.mono (by simp))
  have u10 : w1.cell? ⟨w.heap.size, 0, none⟩ = _ := Lib.cell_of_heap e1 0
  have v10 := Lib.frozen_of_heap e1 0
  have d1 : w1.cell? ⟨b, 1, none⟩ = _ := (B1.cell hbB).trans c1
  have E1 := Lib.hid e1
  have HO1 := Lib.hid ho1
  have HB1 := Lib.hid hb1
  have HBB1 := Lib.hid B1
  clear e1 ho1 hb1 B1
  go_wp2_with fail
  have B1' : Below w.heap.size w (w1.setCell ⟨w.heap.size, 0, none⟩ (.slice (some ⟨g1, 0, none⟩) d.s.length k1)) := HBB1.out.setCell (Nat.le_refl _) _
  have s1 : (w1.setCell ⟨w.heap.size, 0, none⟩ (.slice (some ⟨g1, 0, none⟩) d.s.length k1)).heap.size = w1.heap.size := by simp [World.setCell]
  refine (HF.out _ B1').mono ?_
  rintro e w2 ⟨g2, k2, rfl, ho2, hb2⟩
  have e2 : w2.heap[w.heap.size]? = _ := (hb2.block w.heap.size (by rw [s1]; have := (Array.getElem?_eq_some_iff.1 E1.out).1; omega)).trans (heap_setCell_same _ _ 0 _ _ _ E1.out)
  have n2 : w1.heap.size ≤ g2 := by have := (ho2.lt g2 rfl).1; rw [s1] at this; omega
  have B2 : Below w.heap.size w w2 := B1'.trans (hb2.mono (by rw [s1]; have := (Array.getElem?_eq_some_iff.1 E1.out).1; omega))
  have u21 : w2.cell? ⟨w.heap.size, 1, none⟩ = _ := Lib.cell_of_heap e2 1
  have v21 := Lib.frozen_of_heap e2 1
  have d2 : w2.cell? ⟨b, 2, none⟩ = _ := (B2.cell hbB).trans c2
  have E2 := Lib.hid e2
  have HO2 := Lib.hid ho2
  have HB2 := Lib.hid hb2
  have HBB2 := Lib.hid B2
  have S1 := Lib.hid s1
  have HBB1' := Lib.hid B1'
  clear e2 ho2 hb2 B2 s1 B1'
  go_wp2_with fail
  have B2' : Below w.heap.size w (w2.setCell ⟨w.heap.size, 1, none⟩ (.slice (some ⟨g2, 0, none⟩) d.f.length k2)) := HBB2.out.setCell (Nat.le_refl _) _
  have s2 : (w2.setCell ⟨w.heap.size, 1, none⟩ (.slice (some ⟨g2, 0, none⟩) d.f.length k2)).heap.size = w2.heap.size := by simp [World.setCell]
  refine (HP.out _ B2').mono ?_
  rintro e w3 ⟨v3, rfl, ho3, hb3⟩
  obtain ⟨a3, k3, rfl⟩ := own_slice ho3
  have e3 : w3.heap[w.heap.size]? = _ := (hb3.block w.heap.size (by rw [s2]; have := (Array.getElem?_eq_some_iff.1 E2.out).1; omega)).trans (heap_setCell_same _ _ 1 _ _ _ E2.out)
  have n3 := fun k hk => (ho3.lt k hk).1
  rw [s2] at n3
  have B3 : Below w.heap.size w w3 := B2'.trans (hb3.mono (by rw [s2]; have := (Array.getElem?_eq_some_iff.1 E2.out).1; omega))
  have u32 : w3.cell? ⟨w.heap.size, 2, none⟩ = _ := Lib.cell_of_heap e3 2
  have v32 := Lib.frozen_of_heap e3 2
  have E3 := Lib.hid e3
  have HO3 := Lib.hid ho3
  have HB3 := Lib.hid hb3
  have HBB3 := Lib.hid B3
  have N3 := Lib.hid n3
  have S2 := Lib.hid s2
  clear e3 ho3 hb3 B3 s2 n3 B2'
  go_wp2
  go_ret
  have l1 : w.heap.size < w1.heap.size := (Array.getElem?_eq_some_iff.1 E1.out).1
  have l2 : w1.heap.size ≤ w2.heap.size := by have := HB2.out.size; rw [S1.out] at this; exact this
  have l3 : w2.heap.size ≤ w3.heap.size := by have := HB3.out.size; rw [S2.out] at this; exact this
  have m1 := (HO1.out.lt g1 rfl).2
  have m2 := (HO2.out.lt g2 rfl).2
  have e4 := heap_setCell_same w3 w.heap.size 2 _ _ (.slice a3 d.p.length k3) E3.out
  have hown1 : (w3.setCell ⟨w.heap.size, 2, none⟩ (.slice a3 d.p.length k3)).ownsRow base 9 1 (.slice (some ⟨g1, 0, none⟩) d.s.length k1) d.s.length (strs d.s) := by
    refine own_mono (((((HO1.out.kept (grown_setCell w1 w.heap.size 0 (.slice (some ⟨g1, 0, none⟩) d.s.length k1)) (.inr ?_)).kept (row := none) ⟨HB2.out.os, HB2.out.tape, HB2.out.output, HB2.out.size, fun k hk _ => HB2.out.block k hk⟩ (.inr (by simp [Value.ownBlock]))).kept (grown_setCell w2 w.heap.size 1 (.slice (some ⟨g2, 0, none⟩) d.f.length k2)) (.inr ?_)).kept (row := none) ⟨HB3.out.os, HB3.out.tape, HB3.out.output, HB3.out.size, fun k hk _ => HB3.out.block k hk⟩ (.inr (by simp [Value.ownBlock]))).kept (grown_setCell w3 w.heap.size 2 (.slice a3 d.p.length k3)) (.inr ?_)) ?_
    all_goals first | (simp [Value.ownBlock]; omega) | (simp; omega)
  have hown2 : (w3.setCell ⟨w.heap.size, 2, none⟩ (.slice a3 d.p.length k3)).ownsRow base 9 1 (.slice (some ⟨g2, 0, none⟩) d.f.length k2) d.f.length (strs d.f) := by
    refine own_mono (((HO2.out.kept (grown_setCell w2 w.heap.size 1 (.slice (some ⟨g2, 0, none⟩) d.f.length k2)) (.inr ?_)).kept (row := none) ⟨HB3.out.os, HB3.out.tape, HB3.out.output, HB3.out.size, fun k hk _ => HB3.out.block k hk⟩ (.inr (by simp [Value.ownBlock]))).kept (grown_setCell w3 w.heap.size 2 (.slice a3 d.p.length k3)) (.inr ?_)) ?_
    all_goals first | (simp [Value.ownBlock]; omega) | (rw [S1.out]; omega)
  have np : (Value.slice a3 d.p.length k3).ownBlock ≠ some w.heap.size := fun e => by have := N3.out _ e; omega
  have hown3 : (w3.setCell ⟨w.heap.size, 2, none⟩ (.slice a3 d.p.length k3)).ownsRow base 66 2 (.slice a3 d.p.length k3) d.p.length (flat d.p) :=
    own_mono (HO3.out.kept (grown_setCell w3 w.heap.size 2 (.slice a3 d.p.length k3)) (.inr np)) (by rw [S2.out]; omega)
  refine ⟨rfl, Own w.heap.size g1 g2 (.slice a3 d.p.length k3), ⟨g1, k1, g2, k2, _, ⟨by rw [e4]; rfl, hown1, hown2, hown3, by omega, by omega, by omega, by omega, np, fun e => by have := N3.out _ e; omega, fun e => by have := N3.out _ e; omega⟩, rfl⟩, HBB3.out.setCell (Nat.le_refl _) _, ?_⟩
  intro k hk
  rcases hk with hk | hk | hk | hk
  · omega
  · omega
  · omega
  · have := N3.out _ hk; omega

theorem Clone_dev {base b : Nat} {O : Nat → Prop} {d : DS} {w : World} (h : Dev 58 66 base O b d w) (ok : Ok d) :
    Calls Try.prog 13 #[.pointer (some ⟨b, 0, none⟩)] w fun e w' => e = .returned (.pointer (some ⟨w.heap.size, 0, none⟩)) ∧ Made 58 66 base w.heap.size d w w' := by
  obtain ⟨bs, cs, bf, cf, vp, h, rfl⟩ := h
  exact Clone_any h ok.small ok.len ok.few

end Go.Proofs.Ytchbmchgdhmmmaa
