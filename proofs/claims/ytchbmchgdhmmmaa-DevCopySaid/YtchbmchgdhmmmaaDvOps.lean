/-
  What the small methods of a device answer: reach, count, Read, Down, Pending, Sectors, Arm. Conditions: the device lies in memory as DvBase says.
-/
import Derived.Test.YtchbmchgdhmmmaaDvBase
namespace Go.Proofs.Ytchbmchgdhmmmaa
open Go.RowKit Go.Rc4

section
variable {base b bs cs bf cf : Nat} {vp : Value} {d : DS} {w : World}

set_option maxHeartbeats 1000000 in
theorem reach_any (h : Dv 58 66 base b bs cs bf cf vp d w) (at_ : Int) :
    Calls Try.prog 35 #[.pointer (some ⟨b, 0, none⟩), .int .i64 at_] w fun e w' => e = .returned (.int .i64 (d.reach at_)) ∧ w = w' := by
  obtain ⟨c0, _, _, _, c4⟩ := h.cells
  clear h
  unfold DS.reach
  cases hd : d.down with
  | true =>
    rw [hd] at c4
    clear hd
    go_enter Try.func35, Try.ntmps35
    go_wp2
    go_ret
    exact ⟨rfl, rfl⟩
  | false =>
    rw [hd] at c4
    clear hd
    rw [if_neg (by simp)]
    by_cases h1 : at_ < 0
    · rw [if_pos (.inl h1)]
      go_enter Try.func35, Try.ntmps35
      go_wp2
      go_ret
      exact ⟨rfl, rfl⟩
    · by_cases h2 : (d.s.length : Int) ≤ at_
      · rw [if_pos (.inr h2)]
        go_enter Try.func35, Try.ntmps35
        go_wp2
        go_ret
        exact ⟨rfl, rfl⟩
      · rw [if_neg (by omega)]
        go_enter Try.func35, Try.ntmps35
        go_wp2
        go_ret
        exact ⟨rfl, rfl⟩

set_option maxHeartbeats 1000000 in
theorem count_zero (h : Dv 58 66 base b bs cs bf cf vp d w) (hl : d.left = 0) :
    Calls Try.prog 36 #[.pointer (some ⟨b, 0, none⟩)] w fun e w' => e = .returned (.int .i64 8) ∧ w.setCell ⟨b, 4, none⟩ (.bool true) = w' := by
  obtain ⟨_, _, _, c3, c4⟩ := h.cells
  have f4 := h.marks 4
  rw [hl] at c3
  clear h hl
  go_enter Try.func36, Try.ntmps36
  go_wp2
  go_ret
  exact ⟨rfl, rfl⟩

set_option maxHeartbeats 1000000 in
theorem count_pos (h : Dv 58 66 base b bs cs bf cf vp d w) (hl : 0 < d.left) (h2 : d.left ≤ 9223372036854775807) :
    Calls Try.prog 36 #[.pointer (some ⟨b, 0, none⟩)] w fun e w' => e = .returned (.int .i64 0) ∧ w.setCell ⟨b, 3, none⟩ (.int .i64 d.tick) = w' := by
  obtain ⟨_, _, _, c3, c4⟩ := h.cells
  have f3 := h.marks 3
  unfold DS.tick
  rw [if_pos hl]
  generalize d.left = n at *
  clear h
  have h0 : (n == 0) = false := by simp; omega
  have h0' : ¬ n = 0 := by omega
  go_enter Try.func36, Try.ntmps36
  go_wp2
  go_ret
  exact ⟨rfl, rfl⟩

set_option maxHeartbeats 1000000 in
theorem count_neg (h : Dv 58 66 base b bs cs bf cf vp d w) (hl : d.left < 0) :
    Calls Try.prog 36 #[.pointer (some ⟨b, 0, none⟩)] w fun e w' => e = .returned (.int .i64 0) ∧ w = w' := by
  obtain ⟨_, _, _, c3, c4⟩ := h.cells
  generalize d.left = n at *
  clear h
  have h0 : (n == 0) = false := by simp; omega
  have h0' : ¬ n = 0 := by omega
  have h1 : ¬ 0 < n := by omega
  go_enter Try.func36, Try.ntmps36
  go_wp2
  go_ret
  exact ⟨rfl, rfl⟩

/-- A count that is no last one: what is left is one less, or as it was. -/
theorem count_on (h : Dv 58 66 base b bs cs bf cf vp d w) (hl : ¬ d.left = 0) (h2 : d.left ≤ 9223372036854775807) :
    Calls Try.prog 36 #[.pointer (some ⟨b, 0, none⟩)] w fun e w' => e = .returned (.int .i64 0) ∧ Dv 58 66 base b bs cs bf cf vp { d with left := d.tick } w' ∧ Moved (Own b bs bf vp) w w' := by
  by_cases hp : 0 < d.left
  · refine (count_pos h hp h2).mono ?_
    rintro e w' ⟨rfl, rfl⟩
    exact ⟨rfl, h.putLeft _, (Moved.refl _ _).setCell (.inl (.inl rfl)) _ _⟩
  · refine (count_neg h (by omega)).mono ?_
    rintro e w' ⟨rfl, rfl⟩
    have e : d.tick = d.left := by unfold DS.tick; rw [if_neg hp]
    rw [e]
    exact ⟨rfl, h, Moved.refl _ _⟩

set_option maxHeartbeats 1000000 in
theorem Down_any (h : Dv 58 66 base b bs cs bf cf vp d w) :
    Calls Try.prog 22 #[.pointer (some ⟨b, 0, none⟩)] w fun e w' => e = .returned (.bool d.down) ∧ w = w' := by
  obtain ⟨_, _, _, _, c4⟩ := h.cells
  clear h
  go_enter Try.func22, Try.ntmps22
  go_wp2
  go_ret
  exact ⟨rfl, rfl⟩

set_option maxHeartbeats 1000000 in
theorem Sectors_any (h : Dv 58 66 base b bs cs bf cf vp d w) :
    Calls Try.prog 33 #[.pointer (some ⟨b, 0, none⟩)] w fun e w' => e = .returned (.int .i64 d.s.length) ∧ w = w' := by
  obtain ⟨c0, _, _, _, _⟩ := h.cells
  clear h
  go_enter Try.func33, Try.ntmps33
  go_wp2
  go_ret
  exact ⟨rfl, rfl⟩

set_option maxHeartbeats 1000000 in
theorem Pending_any (h : Dv 58 66 base b bs cs bf cf vp d w) :
    Calls Try.prog 21 #[.pointer (some ⟨b, 0, none⟩)] w fun e w' => e = .returned (.int .i64 d.p.length) ∧ w = w' := by
  obtain ⟨_, _, c2, _, _⟩ := h.cells
  obtain ⟨a, cap, rfl⟩ := own_slice h.rp
  clear h
  go_enter Try.func21, Try.ntmps21
  go_wp2
  go_ret
  exact ⟨rfl, rfl⟩

set_option maxHeartbeats 1000000 in
theorem Arm_any (h : Dv 58 66 base b bs cs bf cf vp d w) (n : Int) :
    Calls Try.prog 23 #[.pointer (some ⟨b, 0, none⟩), .int .i64 n] w fun e w' => e = .returned (.tuple #[]) ∧ Dv 58 66 base b bs cs bf cf vp { d with left := n } w' ∧ Moved (Own b bs bf vp) w w' := by
  obtain ⟨_, _, _, c3, _⟩ := h.cells
  have f3 := h.marks 3
  have H := Lib.hid h
  clear h
  go_enter Try.func23, Try.ntmps23
  go_wp2
  go_end0
  exact ⟨rfl, H.out.putLeft _, (Moved.refl _ _).setCell (.inl (.inl rfl)) _ _⟩

set_option maxHeartbeats 1000000 in
theorem Read_any (h : Dv 58 66 base b bs cs bf cf vp d w) (at_ : Int) :
    Calls Try.prog 20 #[.pointer (some ⟨b, 0, none⟩), .int .i64 at_] w fun e w' => e = .returned (.tuple #[.string (d.rd at_).1, .int .i64 (d.rd at_).2]) ∧ w = w' := by
  have HR := Lib.hid (reach_any h at_)
  obtain ⟨c0, _, _, _, _⟩ := h.cells
  by_cases hr : d.reach at_ = 0
  · have hin : 0 ≤ at_ ∧ at_ < d.s.length := by
      unfold DS.reach at hr
      split at hr
      · simp at hr
      · split at hr
        · simp at hr
        · omega
    obtain ⟨h0, h1⟩ := hin
    obtain ⟨i, rfl⟩ : ∃ i : Nat, at_ = i := ⟨at_.toNat, by omega⟩
    have hc := (h.sAt (i := i) (by omega)).1
    have HE : Hid (d.rd i = (d.s.getD i ⟨#[]⟩, 0)) := by
      unfold DS.rd
      rw [hr, if_neg (by simp)]
      rfl
    rw [hr] at HR
    rw [HE.out]
    clear h hr HE
    go_enter Try.func20, Try.ntmps20
    go_wp2_with (go_at_call 35; ((with_reducible refine HR.out.mono ?_)); rintro e w1 ⟨rfl, rfl⟩)
    go_ret2
    exact ⟨rfl, rfl⟩
  · have HE : Hid (d.rd at_ = (⟨#[]⟩, d.reach at_)) := by
      unfold DS.rd
      rw [if_pos hr]
      rfl
    rw [HE.out]
    clear h HE
    generalize d.reach at_ = r at *
    have hr' : (r == 0) = false := by simpa using hr
    have hr2 : (r != 0) = true := by simpa using hr
    go_enter Try.func20, Try.ntmps20
    go_wp2_with (go_at_call 35; ((with_reducible refine HR.out.mono ?_)); rintro e w1 ⟨rfl, rfl⟩)
    go_ret2
    exact ⟨rfl, rfl⟩

end

end Go.Proofs.Ytchbmchgdhmmmaa
