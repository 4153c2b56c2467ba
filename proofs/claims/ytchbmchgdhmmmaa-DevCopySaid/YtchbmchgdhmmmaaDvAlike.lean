/-
  What 'alike' answers of a device and the reference's that hold the same; and that acts keep them so. Conditions: as each theorem states them.
-/
import Derived.Test.YtchbmchgdhmmmaaDvDoes
import Derived.Deep.QuietTactic
import Derived.BigQuiet
import Derived.WalkSmall
namespace Go.Rc4

/-- The reference's device holds the same, but for how far it is from being armed. -/
def Same (d m : DS) : Prop := ∃ x, m = ⟨d.s, d.f, d.p, x, d.down⟩ ∧ (x = d.left ∨ (x < 0 ∧ d.left < 0))

theorem Same.refl (d : DS) : Same d d := ⟨d.left, rfl, .inl rfl⟩

theorem Same.tick {s f : List ByteArray} {p : List (Nat × ByteArray)} {x y : Int} {a : Bool} (h : x = y ∨ (x < 0 ∧ y < 0)) : (⟨s, f, p, x, a⟩ : DS).tick = (⟨s, f, p, y, a⟩ : DS).tick ∨ ((⟨s, f, p, x, a⟩ : DS).tick < 0 ∧ (⟨s, f, p, y, a⟩ : DS).tick < 0) := by
  rcases h with rfl | ⟨h1, h2⟩
  · exact .inl rfl
  · right
    unfold DS.tick
    rw [if_neg (by show ¬ 0 < x; omega), if_neg (by show ¬ 0 < y; omega)]
    exact ⟨h1, h2⟩

theorem Same.wr {d m : DS} (h : Same d m) (i : Int) (t : ByteArray) : Same (d.wr i t).2 (m.wr i t).2 := by
  obtain ⟨s, f, p, y, a⟩ := d
  obtain ⟨x, rfl, hx⟩ := h
  have hx' : x = y ∨ (x < 0 ∧ y < 0) := hx
  unfold DS.wr
  have hr : (⟨s, f, p, x, a⟩ : DS).reach i = (⟨s, f, p, y, a⟩ : DS).reach i := rfl
  simp only [hr]
  by_cases h1 : (⟨s, f, p, y, a⟩ : DS).reach i ≠ 0
  · rw [if_pos h1, if_pos h1]
    exact ⟨x, rfl, hx⟩
  · rw [if_neg h1, if_neg h1]
    by_cases h2 : t.size ≠ 64
    · rw [if_pos h2, if_pos h2]
      exact ⟨x, rfl, hx⟩
    · rw [if_neg h2, if_neg h2]
      by_cases h3 : y = 0
      · have h4 : x = 0 := by omega
        rw [if_pos h3, if_pos h4]
        exact ⟨x, rfl, hx⟩
      · have h4 : ¬ x = 0 := by omega
        rw [if_neg h3, if_neg h4]
        exact ⟨_, rfl, Same.tick hx'⟩

theorem Same.fl {d m : DS} (h : Same d m) : Same d.fl.2 m.fl.2 := by
  obtain ⟨s, f, p, y, a⟩ := d
  obtain ⟨x, rfl, hx⟩ := h
  have hx' : x = y ∨ (x < 0 ∧ y < 0) := hx
  unfold DS.fl
  cases a with
  | true => exact ⟨x, rfl, hx⟩
  | false =>
    by_cases h3 : y = 0
    · have h4 : x = 0 := by omega
      simp only [h3, h4]
      exact ⟨0, rfl, .inl rfl⟩
    · have h4 : ¬ x = 0 := by omega
      simp only [h3, h4, if_false]
      exact ⟨_, rfl, Same.tick hx'⟩

theorem Same.acts {d m : DS} (h : Same d m) (r : AR) : Same (act r d) (actR r m) := by
  unfold act actR
  by_cases h6 : pk r.op 10 = 6
  · rw [if_pos h6, if_pos h6]
    exact h.fl
  rw [if_neg h6, if_neg h6]
  by_cases h7 : pk r.op 10 = 7
  · rw [if_pos h7, if_pos h7]
    obtain ⟨x, rfl, _⟩ := h
    refine ⟨max r.n (-1), rfl, ?_⟩
    show max r.n (-1) = r.n ∨ (max r.n (-1) < 0 ∧ r.n < 0)
    omega
  rw [if_neg h7, if_neg h7]
  by_cases h8 : pk r.op 10 = 8
  · rw [if_pos h8, if_pos h8]
    obtain ⟨x, rfl, _⟩ := h
    exact ⟨-1, rfl, .inl rfl⟩
  rw [if_neg h8, if_neg h8]
  by_cases h9 : pk r.op 10 = 9
  · rw [if_pos h9, if_pos h9]
    exact h.wr _ _
  rw [if_neg h9, if_neg h9]
  exact h.wr _ _

theorem wr_plen (d : DS) (i : Int) (t : ByteArray) : (d.wr i t).2.p.length ≤ d.p.length + 1 := by
  unfold DS.wr
  split
  · exact Nat.le_succ _
  split
  · exact Nat.le_succ _
  split
  · exact Nat.le_succ _
  · simp

theorem fl_plen (d : DS) : d.fl.2.p.length ≤ d.p.length := by
  unfold DS.fl
  split
  · exact Nat.le_refl _
  split
  · exact Nat.le_refl _
  · simp

theorem act_plen (r : AR) (d : DS) : (act r d).p.length ≤ d.p.length + 1 := by
  unfold act
  split
  · have := fl_plen d; omega
  split
  · show d.p.length ≤ _; omega
  split
  · simp [DS.pw]
  split
  · exact wr_plen _ _ _
  · exact wr_plen _ _ _

theorem actR_plen (r : AR) (d : DS) : (actR r d).p.length ≤ d.p.length + 1 := by
  unfold actR
  split
  · have := fl_plen d; omega
  split
  · show d.p.length ≤ _; omega
  split
  · simp [DS.pw]
  split
  · exact wr_plen _ _ _
  · exact wr_plen _ _ _

end Go.Rc4
namespace Go.Proofs.Ytchbmchgdhmmmaa
open Go.RowKit Go.Rc4

theorem dev_open {O : Nat → Prop} {b : Nat} {d : DS} {w : World} (h : (devT 0 b d).holds O w) : ∃ bs cs bf cf vp, Dv 58 66 0 b bs cs bf cf vp d w := by
  obtain ⟨⟨bs, cs, bf, cf, vp, hd, _⟩, _⟩ := h
  exact ⟨bs, cs, bf, cf, vp, hd⟩

set_option maxHeartbeats 4000000 in
theorem alike_any {w0 w : World} {l : List (Thing 0)} {b c : Nat} {d m : DS} (h : Crew (fun _ => False) w0 l w) (i j : Nat) (hi : l[i]? = some (devT 0 b d)) (hj : l[j]? = some (refT c m)) (hs : Same d m) :
    Calls Try.prog 14 #[.pointer (some ⟨b, 0, none⟩), .pointer (some ⟨c, 0, none⟩)] w fun e w' => e = .returned (.bool true) ∧ Below w.heap.size w w' := by
  obtain ⟨x, rfl, _⟩ := hs
  have hdr : ∀ n, Crew (fun _ => False) w0 l (w.drewN n) := fun n => h.below (below_drewN (Below.refl _ w) n)
  have HS : Hid (∀ n, Calls Try.prog 33 #[.pointer (some ⟨b, 0, none⟩)] (w.drewN n) fun e w' => e = .returned (.int .i64 d.s.length) ∧ ∃ m, w' = w.drewN m) := fun n =>
    (hdr n).look i hi fun O ho => by obtain ⟨bs, cs, bf, cf, vp, hd⟩ := dev_open ho; exact (Sectors_any hd).mono fun _ _ ⟨he, hw⟩ => ⟨he, n, hw.symm⟩
  have HD : Hid (∀ n, Calls Try.prog 22 #[.pointer (some ⟨b, 0, none⟩)] (w.drewN n) fun e w' => e = .returned (.bool d.down) ∧ ∃ m, w' = w.drewN m) := fun n =>
    (hdr n).look i hi fun O ho => by obtain ⟨bs, cs, bf, cf, vp, hd⟩ := dev_open ho; exact (Down_any hd).mono fun _ _ ⟨he, hw⟩ => ⟨he, n, hw.symm⟩
  have HP : Hid (∀ n, Calls Try.prog 21 #[.pointer (some ⟨b, 0, none⟩)] (w.drewN n) fun e w' => e = .returned (.int .i64 d.p.length) ∧ ∃ m, w' = w.drewN m) := fun n =>
    (hdr n).look i hi fun O ho => by obtain ⟨bs, cs, bf, cf, vp, hd⟩ := dev_open ho; exact (Pending_any hd).mono fun _ _ ⟨he, hw⟩ => ⟨he, n, hw.symm⟩
  have HR : Hid (∀ n at_, Calls Try.prog 20 #[.pointer (some ⟨b, 0, none⟩), .int .i64 at_] (w.drewN n) fun e w' => e = .returned (.tuple #[.string (d.rd at_).1, .int .i64 (d.rd at_).2]) ∧ w.drewN n = w') := fun n at_ =>
    (hdr n).look i hi fun O ho => by obtain ⟨bs, cs, bf, cf, vp, hd⟩ := dev_open ho; exact Read_any hd at_
  have HM : Hid (∀ n at_, Calls Try.prog 34 #[.pointer (some ⟨c, 0, none⟩), .int .i64 at_] (w.drewN n) fun e w' => e = .returned (.tuple #[.string (d.rd at_).1, .int .i64 (d.rd at_).2]) ∧ w.drewN n = w') := fun n at_ =>
    (hdr n).look j hj fun O ho => RRead ho at_
  obtain ⟨O, ho, _⟩ := h.one hj
  obtain ⟨⟨ok, _⟩, vs, vf, vp, hc⟩ := refT_open ho
  obtain ⟨an, cn, rfl⟩ := hc.slice 1 rfl
  obtain ⟨ap, cp, rfl⟩ := hc.slice 3 rfl
  obtain ⟨c0, _, c2, _, c4⟩ := hc.cells5
  dsimp only at c0 c2 c4
  have hsm : d.s.length ≤ 8192 := ok.small
  clear h hi hj hdr ho hc ok
  go_enter Try.func14, Try.ntmps14
  go_wp2_with fail
  go_quiet (first | exact HS.out _ | exact HD.out _ | exact HP.out _)
  go_wp2
  clear HS HD HP
  have c0q : (w.drewN nq).cell? ⟨c, 0, none⟩ = some (.slice an d.s.length cn) := c0
  have hBel : Below w.heap.size w (w.drewN nq) := below_drewN (Below.refl _ w) nq
  have HR' := Lib.hid (HR.out nq)
  have HM' := Lib.hid (HM.out nq)
  clear HR HM c0 c2 c4
  generalize w.drewN nq = wq at *
  go_loopw [5, 6, 7, 8, 9] (fun i _ _ _ _ wr => ∃ q : Int, i = .int .i64 q ∧ -1 ≤ q ∧ q ≤ (d.s.length : Int) + 1 ∧ wq = wr) (fun i _ _ _ _ _ => ((d.s.length : Int) + 1 - intOf i).toNat)
  case atStart => exact ⟨-1, rfl, by omega, by omega, rfl⟩
  case round =>
    obtain ⟨q, rfl, hq1, hq2, rfl⟩ := hrel
    by_cases hle : q ≤ (d.s.length : Int)
    · have HR2 := Lib.hid (HR'.out q)
      have HM2 := Lib.hid (HM'.out q)
      generalize (d.rd q).1 = s at *
      generalize (d.rd q).2 = e at *
      go_wp2_with (first | (go_at_call 20; (with_reducible refine HR2.out.mono ?_); rintro e w5 ⟨rfl, rfl⟩) | (go_at_call 34; (with_reducible refine HM2.out.mono ?_); rintro e w5 ⟨rfl, rfl⟩))
      exact ⟨⟨q + 1, by go_num, by omega, by omega, trivial⟩, by simp [intOf]; omega⟩
    · go_wp2
      go_ret
      exact ⟨rfl, hBel⟩

end Go.Proofs.Ytchbmchgdhmmmaa
