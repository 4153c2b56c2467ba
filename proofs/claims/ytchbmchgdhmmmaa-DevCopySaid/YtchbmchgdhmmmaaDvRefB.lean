/-
  The reference's device: what Flush, Arm, Power and Read make of it. Conditions: as each theorem states them.
-/
import Derived.Test.YtchbmchgdhmmmaaDvRef
import Derived.Deep.RegionLaw
namespace Go.Rc4

theorem kept_len (p : List (Nat × ByteArray)) (ks : List Int) : kept (p.take ks.length) ks = kept p ks := by
  induction p generalizing ks with
  | nil => simp
  | cons x r ih =>
    cases ks with
    | nil => rfl
    | cons k ks =>
      rw [List.length_cons, List.take_succ_cons, kept, kept, ih]

def DS.arm (d : DS) (n : Int) : DS := { d with left := max n (-1) }

end Go.Rc4
namespace Go.Proofs.Ytchbmchgdhmmmaa
open Go.RowKit Go.Rc4

theorem tmod2' (y : Int) : y.tmod 2 = 0 ↔ y % 2 = 0 := by
  rw [← Int.dvd_iff_tmod_eq_zero, Int.dvd_iff_emod_eq_zero]

section
variable {O : Nat → Prop} {b : Nat} {d : DS} {vs vf vp : Value} {w w0 : World}

theorem strs_one (l : List ByteArray) : ∀ u ∈ strs l, u.oneCell' = true := by
  intro u hu
  simp only [strs, List.mem_map] at hu
  obtain ⟨s, _, rfl⟩ := hu
  rfl

set_option maxHeartbeats 2000000 in
theorem rflush_off (h : Crew O w0 (parts b d vs vf vp) w) (hd : d.down = true) :
    Calls Try.prog 27 #[.pointer (some ⟨b, 0, none⟩)] w fun e w' => e = .returned (.int .i64 8) ∧ w = w' := by
  obtain ⟨_, _, _, _, c4⟩ := h.cells5
  rw [hd] at c4
  clear h hd
  go_enter Try.func27, Try.ntmps27
  go_wp2
  go_ret
  exact ⟨rfl, rfl⟩

set_option maxHeartbeats 2000000 in
theorem rflush_dead (h : Crew O w0 (parts b d vs vf vp) w) (hd : d.down = false) (hl : d.left = 0) :
    Calls Try.prog 27 #[.pointer (some ⟨b, 0, none⟩)] w fun e w' => e = .returned (.int .i64 8) ∧ Crew O w0 (parts b { d with down := true } vs vf vp) w' := by
  have HC := Lib.hid (rcount_zero h hl)
  obtain ⟨_, _, _, _, c4⟩ := h.cells5
  rw [hd] at c4
  clear h hd hl
  go_enter Try.func27, Try.ntmps27
  go_wp2_with fail
  refine HC.out.mono ?_
  rintro e w1 ⟨rfl, h1⟩
  have H1 := Lib.hid h1
  clear h1 HC
  go_wp2
  go_ret
  exact ⟨rfl, H1.out⟩

set_option maxHeartbeats 4000000 in
theorem rflush_done (h : Crew O w0 (parts b d vs vf vp) w) (hd : d.down = false) (hl : ¬ d.left = 0) (h2 : d.left ≤ 9223372036854775807) (hs : 0 < d.s.length) (hs2 : d.s.length ≤ 8192) :
    Calls Try.prog 27 #[.pointer (some ⟨b, 0, none⟩)] w fun e w' => e = .returned (.int .i64 0) ∧ ∃ vf' vp', Crew O w0 (parts b ⟨d.s, d.s, [], d.tick, d.down⟩ vs vf' vp') w' := by
  obtain ⟨g, c, rfl⟩ := h.held 1 rfl hs
  have HC := Lib.hid (rcount_on h hl h2)
  obtain ⟨_, _, _, _, c4⟩ := h.cells5
  rw [hd] at c4
  clear h hd hl h2
  go_enter Try.func27, Try.ntmps27
  go_wp2_with fail
  refine HC.out.mono ?_
  rintro e w1 ⟨rfl, h1⟩
  obtain ⟨k0, _, _, _, _⟩ := h1.cells5
  have lb := h1.lt 0 rfl
  have H1 := Lib.hid (h1.empty 9 1)
  clear h1 HC
  go_wp2_with (at_builtin; refine wpList_append_crew H1.out 4 rfl rfl (.tmp 13) (.tmp 17) 54 rfl (.string ⟨#[]⟩) 16 Try.underlying54 infoS rfl (by decide) rfl ⟨g, 0, none⟩ d.s.length c (strs d.s) rfl (by rw [strs_length]; omega) ?c1 (strs_one _) ?b1 ?b2 ?next)
  case c1 => exact (H1.out.own 1 rfl).cells (g := g) rfl
  case b1 => unfold maxLen; omega
  case b2 => omega
  case next =>
    intro v' w2 hF
    obtain ⟨g', c', rfl⟩ := hF.held 4 rfl hs
    obtain ⟨y1, z1⟩ := hF.at 0 rfl (j := 1) rfl
    have hF2 := (hF.set 0 rfl 1 (.slice (some ⟨g', 0, none⟩) d.s.length c'))
    have hF3 : Crew O w0 (parts b ⟨d.s, d.s, d.p, d.tick, d.down⟩ (.slice (some ⟨g, 0, none⟩) d.s.length c) (.slice (some ⟨g', 0, none⟩) d.s.length c') vp) (w2.setCell ⟨b, 1, none⟩ (.slice (some ⟨g', 0, none⟩) d.s.length c')) :=
      Crew.swap (l := [_, _, _, _]) hF2 2 (by simp)
    obtain ⟨y2, z2⟩ := hF3.at 0 rfl (j := 2) rfl
    have hF4 := (hF3.set 0 rfl 2 (.slice none 0 0)).nil 81 2
    have HF5 : Hid (Crew O w0 (parts b ⟨d.s, d.s, [], d.tick, d.down⟩ (.slice (some ⟨g, 0, none⟩) d.s.length c) (.slice (some ⟨g', 0, none⟩) d.s.length c') (.slice none 0 0)) ((w2.setCell ⟨b, 1, none⟩ (.slice (some ⟨g', 0, none⟩) d.s.length c')).setCell ⟨b, 2, none⟩ (.slice none 0 0))) :=
      Crew.swap (l := [_, _, _, _]) hF4 3 (by simp)
    have z2' := (hF.at 0 rfl (j := 2) rfl).2
    clear hF hF2 hF3 hF4
    go_wp2
    go_ret
    exact ⟨rfl, _, _, HF5.out⟩

set_option maxHeartbeats 1000000 in
theorem rarm_any (h : Crew O w0 (parts b d vs vf vp) w) (n : Int) :
    Calls Try.prog 28 #[.pointer (some ⟨b, 0, none⟩), .int .i64 n] w fun e w' => e = .returned (.tuple #[]) ∧ Crew O w0 (parts b (d.arm n) vs vf vp) w' := by
  obtain ⟨_, _, _, c3, _⟩ := h.cells5
  have f3 := h.marks5 3 (by omega)
  have H := Lib.hid h
  clear h
  go_enter Try.func28, Try.ntmps28
  go_wp2
  go_end0
  exact ⟨rfl, H.out.set 0 rfl 3 (.int .i64 (max n (-1)))⟩

set_option maxHeartbeats 2000000 in
theorem rread_any (h : Crew O w0 (parts b d vs vf vp) w) (at_ : Int) (hs : 0 < d.s.length) :
    Calls Try.prog 34 #[.pointer (some ⟨b, 0, none⟩), .int .i64 at_] w fun e w' => e = .returned (.tuple #[.string (d.rd at_).1, .int .i64 (d.rd at_).2]) ∧ w = w' := by
  obtain ⟨g, c, rfl⟩ := h.held 1 rfl hs
  obtain ⟨c0, _, _, _, c4⟩ := h.cells5
  cases hd : d.down with
  | true =>
    rw [hd] at c4
    have HE := Lib.hid (rd_off hd at_)
    rw [HE.out]
    clear h hd HE
    go_enter Try.func34, Try.ntmps34
    go_wp2
    go_ret2
    exact ⟨rfl, rfl⟩
  | false =>
    rw [hd] at c4
    by_cases hi : at_ < 0 ∨ (d.s.length : Int) ≤ at_
    · have hr : d.reach at_ = 11 := by
        unfold DS.reach
        rw [hd, if_neg (by decide), if_pos hi]
      have HE : Hid (d.rd at_ = (⟨#[]⟩, 11)) := by
        unfold DS.rd
        rw [hr, if_pos (by decide)]
        rfl
      rw [HE.out]
      clear h hd HE hr
      by_cases h0 : at_ < 0
      · clear hi
        go_enter Try.func34, Try.ntmps34
        go_wp2
        go_ret2
        exact ⟨rfl, rfl⟩
      · have h1 : (d.s.length : Int) ≤ at_ := hi.resolve_left h0
        clear hi
        go_enter Try.func34, Try.ntmps34
        go_wp2
        go_ret2
        exact ⟨rfl, rfl⟩
    · obtain ⟨i, rfl⟩ : ∃ i : Nat, at_ = i := ⟨at_.toNat, by omega⟩
      have hi' : i < d.s.length := by omega
      have hiI : (i : Int) < d.s.length := by omega
      have hiN : ¬ (d.s.length : Int) ≤ i := by omega
      have HE := Lib.hid (rd_ok hd hi')
      rw [HE.out]
      have u := (h.cell 1 rfl (strs_get d.s i hi')).1
      clear h hd HE hi
      go_enter Try.func34, Try.ntmps34
      go_wp2
      go_ret2
      exact ⟨rfl, rfl⟩

end

end Go.Proofs.Ytchbmchgdhmmmaa
