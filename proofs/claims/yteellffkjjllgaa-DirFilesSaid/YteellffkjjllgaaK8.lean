/-
  Contracts as they are asked for inside a region that draws its order; how many sectors a size needs, as the document says it. Conditions: as each theorem states them.
  Whether a file is well: the program's word and the document's own. Conditions: the file's numbers are such as its fields may hold; the document's own is asked only of rows of at most a hundred thousand spans.
  What the writing methods of a strings.Builder do, over this program: the builder holds what it held and the bytes behind; what else was there stays (the rows of bytes aside). Conditions: the builder lies in memory as made by its zero value and these methods; the new length is at most 2^47.
  The check sum by bits, as plain mathematics over natural numbers: one step, many steps, bytes, turned bits. Conditions: none.
  What seal.shifted answers: the register behind four steps. Condition: the register is below 2^32.
  What seal.shifts answers: the table of sixteen registers, each behind four steps. Conditions: none.
-/
import Derived.Test.YteellffkjjllgaaK1
import Derived.Test.YteellffkjjllgaaK4
import Derived.Test.YteellffkjjllgaaK5
import Derived.Test.YteellffkjjllgaaK6
import Derived.Test.YteellffkjjllgaaK7
import Derived.BigQuiet
import Derived.WalkKit
import Derived.WalkSpells
import Derived.BigCall
import Derived.Test.YteellffkjjllgaaChecked
import Derived.Below
import Derived.Lib.Hide
import Derived.Laws.BitsAllLaws
namespace Go.Rc6
open Go.Rc5

theorem beq_dec (t n : Int) : (t == n) = decide (t = n) := by
  rw [Bool.eq_iff_iff]
  simp

end Go.Rc6
namespace Go.Proofs.Yteellffkjjllgaa
open Go.RowKit Go.Rc5 Go.Rc6

set_option maxHeartbeats 1000000 in
theorem needR_any (z : Nat) (hz : z ≤ 9223372036854775807) (w : World) : Calls Try.prog 61 #[.int .i64 (z : Int)] w fun e w' => e = .returned (.int .i64 (need z)) ∧ w' = w := by
  have hn : need z = z / 64 + if z % 64 > 0 then 1 else 0 := rfl
  by_cases h : z % 64 = 0
  · rw [if_neg (by omega)] at hn
    have HN := Lib.hid hn
    have h1 : ¬ 0 < (z : Int) % 64 := by omega
    clear h hn
    go_enter Try.func61, Try.ntmps61
    go_wp2
    go_ret
    rw [HN.out]
    exact ⟨by simp, rfl⟩
  · rw [if_pos (by omega)] at hn
    have HN := Lib.hid hn
    have h1 : 0 < (z : Int) % 64 := by omega
    have h2 : (z : Int) / 64 ≤ 9223372036854775806 := by omega
    clear h hn
    go_enter Try.func61, Try.ntmps61
    go_wp2
    go_ret
    rw [HN.out]
    exact ⟨by simp, rfl⟩

theorem after_of {f : Nat} {args : Array Value} {v : Value} {W : World} (h : ∀ w, Below W.heap.size W w → Calls Try.prog f args w fun e w' => e = .returned v ∧ Below w.heap.size w w') (p : After W) :
    Calls Try.prog f args p.to fun e w' => e = .returned v ∧ ∃ q : After W, w' = q.to :=
  (h p.to p.is).mono fun _ w' ⟨he, hw⟩ => ⟨he, ⟨w', p.is.trans (hw.mono p.is.size)⟩, rfl⟩

theorem after_eq {f : Nat} {args : Array Value} {v : Value} {W : World} (h : ∀ w, Below W.heap.size W w → Calls Try.prog f args w fun e w' => e = .returned v ∧ w' = w) (p : After W) :
    Calls Try.prog f args p.to fun e w' => e = .returned v ∧ ∃ q : After W, w' = q.to :=
  (h p.to p.is).mono fun _ _ ⟨he, hw⟩ => ⟨he, p, hw⟩

theorem after_eq' {f : Nat} {args : Array Value} {v : Value} {W : World} (h : ∀ w, Below W.heap.size W w → Calls Try.prog f args w fun e w' => e = .returned v ∧ w = w') (p : After W) :
    Calls Try.prog f args p.to fun e w' => e = .returned v ∧ ∃ q : After W, w' = q.to :=
  (h p.to p.is).mono fun _ _ ⟨he, hw⟩ => ⟨he, p, hw.symm⟩

end Go.Proofs.Yteellffkjjllgaa

namespace Go.Rc7
open Go.Rc5 Go.Rc6

/-- What is known of a file's numbers. -/
structure FlOk (f : Fl) : Prop where
  name : f.name.size ≤ 9223372036854775807
  size : In64 f.size
  spans : ∀ s ∈ f.spans, In64 s.1 ∧ In64 s.2

open Classical in
noncomputable def wellB (f : Fl) : Bool := decide (Well f)

theorem wellB_iff (f : Fl) : wellB f = true ↔ Well f := by simp [wellB]

theorem wellB_of {f : Fl} {b : Bool} (h : b = true ↔ Well f) : b = wellB f := by
  rw [Bool.eq_iff_iff, wellB_iff]
  exact h

theorem well_dir {L : List Fl} (h : Dir L) : ∀ f ∈ L, FlOk f := fun f hf => by
  have hw := h.well f hf
  have h1 := hw.name_le
  have h2 := hw.lo
  have h3 := hw.hi
  refine ⟨by omega, ⟨by omega, by omega⟩, fun s hs => ?_⟩
  have := hw.span s hs
  exact ⟨⟨by omega, by omega⟩, ⟨by omega, by omega⟩⟩

end Go.Rc7
namespace Go.Proofs.Yteellffkjjllgaa
open Go.RowKit Go.Rc5 Go.Rc6 Go.Rc7

theorem need_div (z : Nat) : (z + 63) / 64 = need z := by
  unfold need
  split <;> omega

set_option maxHeartbeats 1000000 in
theorem needD_any (z : Int) (h0 : 0 ≤ z) (h1 : z ≤ 20000) (w : World) : Calls Try.prog 85 #[.int .i64 z] w fun e w' => e = .returned (.int .i64 ((need z.toNat : Nat) : Int)) ∧ w' = w := by
  obtain ⟨q, rfl⟩ : ∃ q : Nat, z = (q : Int) := ⟨z.toNat, by omega⟩
  have HD := Lib.hid (need_div q)
  go_enter Try.func85, Try.ntmps85
  go_wp2
  go_ret
  refine ⟨?_, rfl⟩
  rw [Int.toNat_natCast, ← HD.out]
  show Ending.returned (.int .i64 (((q : Int) + 64 - 1) / 64)) = _
  rw [show ((q : Int) + 64 - 1) / 64 = (((q + 63) / 64 : Nat) : Int) by omega]

set_option maxRecDepth 100000 in
set_option maxHeartbeats 8000000 in
theorem well_core (s : ByteArray) (z : Int) (p : Option Addr) (n c : Nat) (w : World) (r1 r2 : Bool) (t m : Int)
    (HR1 : ∀ W, Below w.heap.size w W → Calls Try.prog 82 #[.string s] W fun e w' => e = .returned (.bool r1) ∧ Below W.heap.size W w')
    (HR2 : n ≤ 200 → ∀ W, Below w.heap.size w W → Calls Try.prog 83 #[.slice p n c, .int .i64 8192] W fun e w' => e = .returned (.bool r2) ∧ Below W.heap.size W w')
    (HT : r2 = true → n ≤ 200 → ∀ W, Below w.heap.size w W → Calls Try.prog 84 #[.slice p n c] W fun e w' => e = .returned (.int .i64 t) ∧ Below W.heap.size W w')
    (HN : 0 ≤ z → z ≤ 20000 → ∀ W, Below w.heap.size w W → Calls Try.prog 85 #[.int .i64 z] W fun e w' => e = .returned (.int .i64 m) ∧ w' = W) :
    Calls Try.prog 70 #[.agg #[.string s, .int .i64 z, .slice p n c]] w fun e w' => e = .returned (.bool (r1 && decide (0 ≤ z) && decide (z ≤ 20000) && decide (n ≤ 200) && r2 && decide (t = m))) ∧ Below w.heap.size w w' := by
  have C := (Crew.start w).block #[.string s, .int .i64 z, .slice p n c] 35
  have HC := Lib.hid C
  have HB := Lib.hid C.bel
  have F1 := Lib.hid (fun q => after_of (W := (w.alloc (.cells #[.string s, .int .i64 z, .slice p n c] 35))) (fun W hW => HR1 W (below_trans HB.out hW)) q)
  have F2 := Lib.hid (fun h q => after_of (W := (w.alloc (.cells #[.string s, .int .i64 z, .slice p n c] 35))) (fun W hW => HR2 h W (below_trans HB.out hW)) q)
  have GT := Lib.hid HT
  have GN := Lib.hid HN
  clear HR1 HR2 HT HN
  go_enter Try.func70, Try.ntmps70
  have F3 := Lib.hid (fun h h' q => after_of (W := (w.alloc (.cells #[.string s, .int .i64 z, .slice p n c] 35))) (fun W hW => GT.out h h' W (below_trans HB.out hW)) q)
  have F4 := Lib.hid (fun h h' q => after_eq (W := (w.alloc (.cells #[.string s, .int .i64 z, .slice p n c] 35))) (fun W hW => GN.out h h' W (below_trans HB.out hW)) q)
  have c0 := fun q => after_cell (C.at 0 rfl (j := 0) rfl).1 (C.lt 0 rfl) q
  have c1 := fun q => after_cell (C.at 0 rfl (j := 1) rfl).1 (C.lt 0 rfl) q
  have c2 := fun q => after_cell (C.at 0 rfl (j := 2) rfl).1 (C.lt 0 rfl) q
  clear C HC GT GN
  cases r1 with
  | false =>
    go_wp2_with fail
    refine wp_region_after (by kernel_rfl) (by kernel_rfl) ?_
    repeat (go_big_quiet_step (first | with_reducible exact F1.out _))
    refine wpQuiet_nil ?_
    intro _ hw
    obtain ⟨q, rfl⟩ := hw
    have HP := Lib.hid q.is
    generalize q.to = wp at *
    go_wp2
    go_ret
    exact ⟨by simp <;> (intros; omega), below_trans HB.out HP.out⟩
  | true =>
    by_cases e1 : 0 ≤ z
    · have e1' : decide (0 ≤ z) = true := decide_eq_true e1
      by_cases e2 : z ≤ 20000
      · have e2' : decide (z ≤ 20000) = true := decide_eq_true e2
        replace F4 := Lib.hid (F4.out e1 e2)
        by_cases e3 : n ≤ 200
        · have e3' : decide ((n : Int) ≤ 200) = true := decide_eq_true (by omega)
          have e3'' : (n : Int) ≤ 200 := by omega
          replace F2 := Lib.hid (F2.out e3)
          cases r2 with
          | false =>
            go_wp2_with fail
            refine wp_region_after (by kernel_rfl) (by kernel_rfl) ?_
            repeat (go_big_quiet_step (first | with_reducible exact F1.out _ | with_reducible exact F2.out _))
            refine wpQuiet_nil ?_
            intro _ hw
            obtain ⟨q, rfl⟩ := hw
            have HP := Lib.hid q.is
            generalize q.to = wp at *
            go_wp2
            go_ret
            exact ⟨by simp <;> (intros; omega), below_trans HB.out HP.out⟩
          | true =>
            replace F3 := Lib.hid (F3.out rfl e3)
            go_wp2_with fail
            refine wp_region_after (by kernel_rfl) (by kernel_rfl) ?_
            repeat (go_big_quiet_step (first | with_reducible exact F1.out _ | with_reducible exact F2.out _ | with_reducible exact F3.out _ | with_reducible exact F4.out _))
            refine wpQuiet_nil ?_
            intro _ hw
            obtain ⟨q, rfl⟩ := hw
            have HP := Lib.hid q.is
            generalize q.to = wp at *
            go_wp2
            go_ret
            exact ⟨by rw [← beq_dec]; simp <;> (intros; omega), below_trans HB.out HP.out⟩
        · have e3' : decide ((n : Int) ≤ 200) = false := decide_eq_false (by omega)
          have e3'' : ¬ (n : Int) ≤ 200 := by omega
          go_wp2_with fail
          refine wp_region_after (by kernel_rfl) (by kernel_rfl) ?_
          repeat (go_big_quiet_step (first | with_reducible exact F1.out _))
          refine wpQuiet_nil ?_
          intro _ hw
          obtain ⟨q, rfl⟩ := hw
          have HP := Lib.hid q.is
          generalize q.to = wp at *
          go_wp2
          go_ret
          exact ⟨by simp <;> (intros; omega), below_trans HB.out HP.out⟩
      · have e2' : decide (z ≤ 20000) = false := decide_eq_false e2
        go_wp2_with fail
        refine wp_region_after (by kernel_rfl) (by kernel_rfl) ?_
        repeat (go_big_quiet_step (first | with_reducible exact F1.out _))
        refine wpQuiet_nil ?_
        intro _ hw
        obtain ⟨q, rfl⟩ := hw
        have HP := Lib.hid q.is
        generalize q.to = wp at *
        go_wp2
        go_ret
        exact ⟨by simp <;> (intros; omega), below_trans HB.out HP.out⟩
    · have e1' : decide (0 ≤ z) = false := decide_eq_false e1
      go_wp2_with fail
      refine wp_region_after (by kernel_rfl) (by kernel_rfl) ?_
      repeat (go_big_quiet_step (first | with_reducible exact F1.out _))
      refine wpQuiet_nil ?_
      intro _ hw
      obtain ⟨q, rfl⟩ := hw
      have HP := Lib.hid q.is
      generalize q.to = wp at *
      go_wp2
      go_ret
      exact ⟨by simp <;> (intros; omega), below_trans HB.out HP.out⟩

set_option maxRecDepth 100000 in
set_option maxHeartbeats 8000000 in
theorem wellR_core (s : ByteArray) (z : Int) (p : Option Addr) (n c : Nat) (w : World) (r1 r2 : Bool) (t m : Int)
    (HR1 : ∀ W, Below w.heap.size w W → Calls Try.prog 58 #[.string s] W fun e w' => e = .returned (.bool r1) ∧ Below W.heap.size W w')
    (HR2 : ∀ W, Below w.heap.size w W → Calls Try.prog 59 #[.slice p n c, .int .i64 8192] W fun e w' => e = .returned (.bool r2) ∧ Below W.heap.size W w')
    (HT : r2 = true → n ≤ 200 → ∀ W, Below w.heap.size w W → Calls Try.prog 60 #[.slice p n c] W fun e w' => e = .returned (.int .i64 t) ∧ Below W.heap.size W w')
    (HN : 0 ≤ z → z ≤ 20000 → ∀ W, Below w.heap.size w W → Calls Try.prog 61 #[.int .i64 z] W fun e w' => e = .returned (.int .i64 m) ∧ w' = W) :
    Calls Try.prog 35 #[.agg #[.string s, .int .i64 z, .slice p n c]] w fun e w' => e = .returned (.bool (r1 && decide (0 ≤ z) && decide (z ≤ 20000) && decide (n ≤ 200) && r2 && decide (t = m))) ∧ Below w.heap.size w w' := by
  have C := (Crew.start w).block #[.string s, .int .i64 z, .slice p n c] 39
  have HC := Lib.hid C
  have HB := Lib.hid C.bel
  have GR1 := Lib.hid (HR1 _ HB.out)
  have GR2 := Lib.hid HR2
  have a0 := (C.at 0 rfl (j := 0) rfl).1
  have GT := Lib.hid HT
  have GN := Lib.hid HN
  clear C HR1 HR2 HT HN
  go_enter Try.func35, Try.ntmps35
  go_wp2_with fail
  refine GR1.out.mono ?_
  rintro e w1 ⟨rfl, hb1⟩
  replace HB := Lib.hid (below_trans HB.out hb1)
  replace HC := Lib.hid (HC.out.below hb1)
  clear a0 hb1 GR1
  have a2 := (HC.out.at 0 rfl (j := 2) rfl).1
  go_wp2_with fail
  refine (GR2.out _ HB.out).mono ?_
  rintro e w2 ⟨rfl, hb2⟩
  replace HB := Lib.hid (below_trans HB.out hb2)
  replace HC := Lib.hid (HC.out.below hb2)
  clear a2 hb2 GR2
  have C := HC.out
  have F1 : True := trivial
  have F2 : True := trivial
  have F3 := Lib.hid (fun h h' q => after_of (W := w2) (fun W hW => GT.out h h' W (below_trans HB.out hW)) q)
  have F4 := Lib.hid (fun h h' q => after_eq (W := w2) (fun W hW => GN.out h h' W (below_trans HB.out hW)) q)
  have c0 := fun q => after_cell (C.at 0 rfl (j := 0) rfl).1 (C.lt 0 rfl) q
  have c1 := fun q => after_cell (C.at 0 rfl (j := 1) rfl).1 (C.lt 0 rfl) q
  have c2 := fun q => after_cell (C.at 0 rfl (j := 2) rfl).1 (C.lt 0 rfl) q
  clear C HC GT GN
  cases r1 with
  | false =>
    go_wp2_with fail
    refine wp_region_after (by kernel_rfl) (by kernel_rfl) ?_
    repeat (go_big_quiet_step (first | fail))
    refine wpQuiet_nil ?_
    intro _ hw
    obtain ⟨q, rfl⟩ := hw
    have HP := Lib.hid q.is
    generalize q.to = wp at *
    go_wp2
    go_ret
    exact ⟨by simp <;> (intros; omega), below_trans HB.out HP.out⟩
  | true =>
   cases r2 with
   | false =>
    go_wp2_with fail
    refine wp_region_after (by kernel_rfl) (by kernel_rfl) ?_
    repeat (go_big_quiet_step (first | fail))
    refine wpQuiet_nil ?_
    intro _ hw
    obtain ⟨q, rfl⟩ := hw
    have HP := Lib.hid q.is
    generalize q.to = wp at *
    go_wp2
    go_ret
    exact ⟨by simp <;> (intros; omega), below_trans HB.out HP.out⟩
   | true =>
    by_cases e1 : 0 ≤ z
    · have e1' : decide (0 ≤ z) = true := decide_eq_true e1
      by_cases e2 : z ≤ 20000
      · have e2' : decide (z ≤ 20000) = true := decide_eq_true e2
        replace F4 := Lib.hid (F4.out e1 e2)
        by_cases e3 : n ≤ 200
        · have e3' : decide ((n : Int) ≤ 200) = true := decide_eq_true (by omega)
          have e3'' : (n : Int) ≤ 200 := by omega
          replace F3 := Lib.hid (F3.out rfl e3)
          go_wp2_with fail
          refine wp_region_after (by kernel_rfl) (by kernel_rfl) ?_
          repeat (go_big_quiet_step (first | with_reducible exact F3.out _ | with_reducible exact F4.out _))
          refine wpQuiet_nil ?_
          intro _ hw
          obtain ⟨q, rfl⟩ := hw
          have HP := Lib.hid q.is
          generalize q.to = wp at *
          go_wp2
          go_ret
          exact ⟨by rw [← beq_dec]; simp <;> (intros; omega), below_trans HB.out HP.out⟩
        · have e3' : decide ((n : Int) ≤ 200) = false := decide_eq_false (by omega)
          have e3'' : ¬ (n : Int) ≤ 200 := by omega
          go_wp2_with fail
          refine wp_region_after (by kernel_rfl) (by kernel_rfl) ?_
          repeat (go_big_quiet_step (first | fail))
          refine wpQuiet_nil ?_
          intro _ hw
          obtain ⟨q, rfl⟩ := hw
          have HP := Lib.hid q.is
          generalize q.to = wp at *
          go_wp2
          go_ret
          exact ⟨by simp <;> (intros; omega), below_trans HB.out HP.out⟩
      · have e2' : decide (z ≤ 20000) = false := decide_eq_false e2
        go_wp2_with fail
        refine wp_region_after (by kernel_rfl) (by kernel_rfl) ?_
        repeat (go_big_quiet_step (first | fail))
        refine wpQuiet_nil ?_
        intro _ hw
        obtain ⟨q, rfl⟩ := hw
        have HP := Lib.hid q.is
        generalize q.to = wp at *
        go_wp2
        go_ret
        exact ⟨by simp <;> (intros; omega), below_trans HB.out HP.out⟩
    · have e1' : decide (0 ≤ z) = false := decide_eq_false e1
      go_wp2_with fail
      refine wp_region_after (by kernel_rfl) (by kernel_rfl) ?_
      repeat (go_big_quiet_step (first | fail))
      refine wpQuiet_nil ?_
      intro _ hw
      obtain ⟨q, rfl⟩ := hw
      have HP := Lib.hid q.is
      generalize q.to = wp at *
      go_wp2
      go_ret
      exact ⟨by simp <;> (intros; omega), below_trans HB.out HP.out⟩

theorem need_toNat {z : Int} (h : 0 ≤ z) (hz : z ≤ 20000) (W : World) : Calls Try.prog 61 #[.int .i64 z] W fun e w' => e = .returned (.int .i64 ((need z.toNat : Nat) : Int)) ∧ w' = W := by
  have := needR_any z.toNat (by omega) W
  rw [show ((z.toNat : Nat) : Int) = z from Int.toNat_of_nonneg h] at this
  exact this

/-- What the words of a file that is well come to. -/
theorem well_of (f : Fl) (r2 : Bool) (t m : Int) (h2 : f.spans.length ≤ 200 → (r2 = true ↔ ∃ N, Fits f.spans N 8192 ∧ Ch 0 N)) (ht : ∀ N, Fits f.spans N 8192 → Ch 0 N → t = (total N : Int)) (hm : m = ((need f.size.toNat : Nat) : Int)) :
    (Rc1.right f.name.data.toList && decide (0 ≤ f.size) && decide (f.size ≤ 20000) && decide (f.spans.length ≤ 200) && r2 && decide (t = m)) = wellB f := by
  refine wellB_of ?_
  simp only [Bool.and_eq_true, decide_eq_true_eq]
  constructor
  · rintro ⟨⟨⟨⟨⟨k1, k2⟩, k3⟩, k4⟩, k5⟩, k6⟩
    obtain ⟨N, hf, hc⟩ := (h2 k4).1 k5
    refine ⟨k1, k2, k3, k4, N, hf.eq, hc, fun s hs => ⟨hf.some s hs, hf.fit s hs⟩, ?_⟩
    have := ht N hf hc
    omega
  · rintro ⟨k1, k2, k3, k4, N, he, hc, hs, hT⟩
    have hf : Fits f.spans N 8192 := ⟨by decide, by decide, he, fun s h => (hs s h).1, fun s h => (hs s h).2⟩
    refine ⟨⟨⟨⟨⟨k1, k2⟩, k3⟩, k4⟩, (h2 k4).2 ⟨N, hf, hc⟩⟩, ?_⟩
    have := ht N hf hc
    omega

theorem fits_one {L : List SpI} {N N' : List Sp} {n n' : Nat} (h : Fits L N n) (h' : Fits L N' n') : N = N' := castS_inj (h.eq.symm.trans h'.eq)

theorem fits_rows (L : List SpI) : (∃ N, Fits L N 8192) ∨ Bad L 8192 := by
  rcases bad_or_fits L 8192 with h | ⟨N, n, hn, hf⟩
  · exact .inr h
  · have : n = 8192 := by omega
    subst this
    exact .inl ⟨N, hf⟩

theorem bad_no {L : List SpI} {N : List Sp} (hb : Bad L 8192) (hf : Fits L N 8192) : False := by
  rcases hb with h | h | ⟨x, hx, hi⟩
  · omega
  · omega
  · rw [hf.eq] at hx
    simp only [castS, List.mem_map] at hx
    obtain ⟨t, ht, rfl⟩ := hx
    have h3 := hf.some t ht
    have h4 := hf.fit t ht
    have := (insB_iff ((t.1 : Int), (t.2 : Int)) 8192).2 ⟨by show 1 ≤ (t.2 : Int); omega, by show 0 ≤ (t.1 : Int); omega, by show (t.1 : Int) < 8192; omega, by show (t.2 : Int) ≤ 8192 - t.1; omega⟩
    rw [hi] at this
    cases this

open Classical in
theorem well_any (f : Fl) (k : FlOk f) (p : Option Addr) (c : Nat) (w : World) (h : SpansAt w p f.spans) :
    Calls Try.prog 70 #[.agg #[.string f.name, .int .i64 f.size, .slice p f.spans.length c]] w fun e w' => e = .returned (.bool (wellB f)) ∧ Below w.heap.size w w' := by
  have hS : ∀ W, Below w.heap.size w W → SpansAt W p f.spans := fun W hW => SpansAt.below h hW
  rcases fits_rows f.spans with ⟨N, hf⟩ | hb
  · have hlen : N.length = f.spans.length := by rw [hf.eq, castS_length]
    rw [← well_of f (decide (Ch 0 N)) (total N : Nat) _ (fun _ => by rw [decide_eq_true_eq]; exact ⟨fun hc => ⟨N, hf, hc⟩, fun ⟨M, hM, hc⟩ => fits_one hM hf ▸ hc⟩) (fun M hM _ => by rw [fits_one hM hf]) rfl]
    refine well_core f.name f.size p f.spans.length c w _ _ _ _ (fun W _ => Right_any f.name k.name W) (fun h2 W hW => ?_) (fun hr h2 W hW => ?_) (fun h0 h1 W _ => needD_any f.size h0 h1 W)
    · have := pright_good f.spans N 8192 p c f.spans.length W (hS W hW) rfl (by omega) hf
      refine this.mono ?_
      rintro e w' ⟨b, rfl, hbI, hbb⟩
      refine ⟨?_, hbb⟩
      congr 2
      rw [Bool.eq_iff_iff, decide_eq_true_eq]
      exact hbI
    · have hc : Ch 0 N := by simpa using hr
      have hs := hS W hW
      rw [hf.eq] at hs
      rw [hf.eq, castS_length]
      rw [hf.eq, castS_length] at h2
      exact ptotal N p c _ W hs rfl (by omega) (fun s hs => by have := hf.fit s hs; omega)
  · rw [← well_of f false 0 _ (fun _ => ⟨fun h => (by cases h), fun ⟨N, hf, _⟩ => (bad_no hb hf).elim⟩) (fun N hf _ => (bad_no hb hf).elim) rfl]
    refine well_core f.name f.size p f.spans.length c w _ _ _ _ (fun W _ => Right_any f.name k.name W) (fun h2 W hW => ?_) (fun hr => by cases hr) (fun h0 h1 W _ => needD_any f.size h0 h1 W)
    exact pright_bad f.spans p c f.spans.length 8192 W (hS W hW) rfl (by omega) hb (fun s hs => (k.spans s hs).1)

open Classical in
theorem wellR_any (f : Fl) (hk : f.name.size ≤ 140737488355328) (hlen0 : f.spans.length ≤ 100000) (p : Option Addr) (c : Nat) (w : World) (h : SpansAt w p f.spans) :
    Calls Try.prog 35 #[.agg #[.string f.name, .int .i64 f.size, .slice p f.spans.length c]] w fun e w' => e = .returned (.bool (wellB f)) ∧ Below w.heap.size w w' := by
  have hS : ∀ W, Below w.heap.size w W → SpansAt W p f.spans := fun W hW => SpansAt.below h hW
  rcases fits_rows f.spans with ⟨N, hf⟩ | hb
  · have hlen : N.length = f.spans.length := by rw [hf.eq, castS_length]
    rw [← well_of f (decide (Ch 0 N)) (total N : Nat) _ (fun _ => by rw [decide_eq_true_eq]; exact ⟨fun hc => ⟨N, hf, hc⟩, fun ⟨M, hM, hc⟩ => fits_one hM hf ▸ hc⟩) (fun M hM _ => by rw [fits_one hM hf]) rfl]
    refine wellR_core f.name f.size p f.spans.length c w _ _ _ _ (fun W _ => rRight_any f.name hk W) (fun W hW => ?_) (fun hr h2 W hW => ?_) (fun h0 h1 W _ => need_toNat h0 h1 W)
    · have := rright_good f.spans N 8192 p c f.spans.length W (hS W hW) rfl hlen0 hf
      refine this.mono ?_
      rintro e w' ⟨b, rfl, hbI, hbb⟩
      refine ⟨?_, hbb⟩
      congr 2
      rw [Bool.eq_iff_iff, decide_eq_true_eq]
      exact hbI
    · have hs := hS W hW
      rw [hf.eq] at hs
      refine (rtotal_any N p c _ W hs hlen hlen0 (fun s hs => by have := hf.fit s hs; omega)).mono ?_
      rintro e w' ⟨rfl, rfl⟩
      exact ⟨rfl, Below.refl _ _⟩
  · rw [← well_of f false 0 _ (fun _ => ⟨fun h => (by cases h), fun ⟨N, hf, _⟩ => (bad_no hb hf).elim⟩) (fun N hf _ => (bad_no hb hf).elim) rfl]
    refine wellR_core f.name f.size p f.spans.length c w _ _ _ _ (fun W _ => rRight_any f.name hk W) (fun W hW => ?_) (fun hr => by cases hr) (fun h0 h1 W _ => need_toNat h0 h1 W)
    exact rright_bad f.spans p c f.spans.length 8192 W (hS W hW) rfl hlen0 hb

end Go.Proofs.Yteellffkjjllgaa

namespace Go.Proofs.Yteellffkjjllgaa
open Go.RowKit

theorem sizeB : (Try.prog.info? 112).map (·.size) = some 2 := by kernel_rfl
theorem infoB : (Try.prog.info? 5).map (fun i => (i.zero, i.size, i.bytes)) = some (some (.int .u8 0), 1, 1) := by kernel_rfl

set_option maxHeartbeats 1000000 in
set_option maxRecDepth 100000 in
theorem copyCheck_used (b : Nat) (w : World) (h0 : w.cell? ⟨b, 0, none⟩ = some (.pointer (some ⟨b, 0, none⟩))) :
    Calls Try.prog 86 #[.pointer (some ⟨b, 0, none⟩)] w fun e w' => e = .returned (.tuple #[]) ∧ w = w' := by
  obtain ⟨j, hj, _⟩ := Option.map_eq_some_iff.1 sizeB
  go_enter Try.func86, Try.ntmps86
  go_wp2
  rw [Lib.run_neq_ptr_same w _ Try.underlying110 hj]
  go_wp2
  go_end0
  exact ⟨rfl, rfl⟩

set_option maxHeartbeats 1000000 in
set_option maxRecDepth 100000 in
theorem copyCheck_fresh (b : Nat) (w : World) (h0 : w.cell? ⟨b, 0, none⟩ = some (.pointer none)) (hsh : w.shape? b = some (112, 2)) (hfz : w.frozen? ⟨b, 0, none⟩ = false) :
    Calls Try.prog 86 #[.pointer (some ⟨b, 0, none⟩)] w fun e w' => e = .returned (.tuple #[]) ∧ w' = w.setCell ⟨b, 0, none⟩ (.pointer (some ⟨b, 0, none⟩)) := by
  obtain ⟨j, hj, hjs⟩ := Option.map_eq_some_iff.1 sizeB
  go_enter Try.func86, Try.ntmps86
  go_wp2
  rw [Lib.run_to_unsafe w ⟨b, 0, none⟩ Try.underlying110 Try.underlying138 hj (by rw [hjs]; decide) hsh (Nat.zero_lt_succ 1)]
  simp only [Result.andThen]
  rw [Oper.upon_value]
  go_wp2
  rw [run_callFunc_extern Try.func97 (by kernel_rfl) (by kernel_rfl) (by kernel_rfl) (e := Extern.AbiNoEscape.same) (by kernel_rfl)]
  rw [Lib.run_noEscape]
  simp only [Result.andThen]
  rw [Oper.upon_value]
  go_wp2
  rw [Lib.run_from_unsafe w ⟨b, 0, none⟩ Try.underlying138 Try.underlying110 hj hsh (by kernel_rfl)]
  simp only [Result.andThen]
  rw [Oper.upon_value]
  go_wp2
  go_end0
  exact ⟨rfl, rfl⟩

theorem copyCheck_k (B b : Nat) (bs : List Value) (w : World) (h : Lib.IsBuilderF 112 5 B b bs w) :
    Calls Try.prog 86 #[.pointer (some ⟨b, 0, none⟩)] w fun e w' => e = .returned (.tuple #[]) ∧ (Lib.BuilderAtF 112 5 B b (.pointer (some ⟨b, 0, none⟩)) bs w' ∧ Below B w w' ∧ Lib.OthersKept 5 (some b) w w') := by
  rcases h with h | h
  · refine (copyCheck_fresh b w h.cell0 h.shape h.frozen0).mono ?_
    rintro e w' ⟨rfl, rfl⟩
    exact ⟨rfl, h.used _, (Below.refl B w).setCell (p := ⟨b, 0, none⟩) h.1 _, (Lib.OthersKept.refl _ _ w).setCell ⟨b, 0, none⟩ rfl _⟩
  · refine (copyCheck_used b w h.cell0).mono ?_
    rintro e w' ⟨rfl, rfl⟩
    exact ⟨rfl, h, Below.refl B _, Lib.OthersKept.refl _ _ _⟩

set_option maxHeartbeats 2000000 in
set_option maxRecDepth 100000 in
theorem WriteString_k (B b : Nat) (bs : List Value) (s : ByteArray) (w : World) (h : Lib.IsBuilderF 112 5 B b bs w) (hlen : bs.length + s.size ≤ 140737488355328) (hBw : B ≤ w.heap.size) :
    Calls Try.prog 72 #[.pointer (some ⟨b, 0, none⟩), .string s] w fun e w' => e = .returned (.tuple #[.int .i64 s.size, .nilIface]) ∧ (Lib.BuilderAtF 112 5 B b (.pointer (some ⟨b, 0, none⟩)) (bs ++ Lib.strCells s) w' ∧ Below B w w' ∧ Lib.OthersKept 5 (some b) w w') := by
  obtain ⟨i0, hi, hz0, hz1, hz2⟩ := info_parts infoB
  go_enter Try.func72, Try.ntmps72
  go_wp2_with (go_at_call 86; refine (copyCheck_k B b bs _ h).mono ?_)
  rintro e w1 ⟨rfl, h1, hb1, hk1⟩
  obtain ⟨hB, v, hbk, hown, hne⟩ := h1
  have c0 : w1.cell? ⟨b, 0, none⟩ = some (.pointer (some ⟨b, 0, none⟩)) := by rw [Lib.cell_of_heap hbk]; rfl
  have c1 : w1.cell? ⟨b, 1, none⟩ = some v := by rw [Lib.cell_of_heap hbk]; rfl
  go_wp2_with (at_builtin; refine Lib.wpList_append_own_stringF _ rfl _ _ 54 9 rfl B 5 i0 Try.underlying54 Try.underlying9 hi hz0 hz1 hz2 _ _ _ rfl hown s rfl ?c3 ?c4 ?c5 ?_)
  case c3 => unfold maxLen; omega
  case c4 => omega
  case c5 => have := hb1.size; omega
  intro v' w2 hown' hgrow _
  have hlt : b < w1.heap.size := by
    rcases Nat.lt_or_ge b w1.heap.size with h' | h'
    · exact h'
    · simp [Array.getElem?_eq_none h'] at hbk
  have hb2 : w2.heap[b]? = some (.cells #[.pointer (some ⟨b, 0, none⟩), v] 112 (0, 0)) := by
    rw [hgrow.block b hlt (fun e => hne e.symm)]
    exact hbk
  have d0 : w2.cell? ⟨b, 0, none⟩ = some (.pointer (some ⟨b, 0, none⟩)) := by rw [Lib.cell_of_heap hb2]; rfl
  have d1 : w2.cell? ⟨b, 1, none⟩ = some v := by rw [Lib.cell_of_heap hb2]; rfl
  have f1 : w2.frozen? ⟨b, 1, none⟩ = false := Lib.frozen_of_heap hb2 1
  obtain ⟨ao, n', cap, rfl⟩ : ∃ ao n' cap, v' = .slice ao n' cap := by
    rcases hown'.2 with ⟨hv, _⟩ | ⟨g, cap, cur, fz, hv, _⟩
    · exact ⟨_, _, _, hv⟩
    · exact ⟨_, _, _, hv⟩
  go_wp2
  go_ret2
  refine ⟨rfl, ?_, ?_, (hk1.grown hgrow (Lib.ownsRowF_kind hown)).setCell ⟨b, 1, none⟩ rfl _⟩
  · exact Lib.BuilderAtF.put (T := 112) (e := 5) hB hb2 (bs' := bs ++ Lib.strCells s) (by simpa [Lib.strCells_length] using hown') (by decide)
  · exact (hb1.grown hgrow (by have := hb1.size; omega) (fun k hk => (hown.lt k hk).1)).setCell (p := ⟨b, 1, none⟩) hB _

end Go.Proofs.Yteellffkjjllgaa

namespace Go.Rc3
open Go.Rc2 (say put)

/-- One step of the register, no bit coming in. -/
def s0 (x : Nat) : Nat := if x % 2 = 1 then x / 2 ^^^ 3988292384 else x / 2

def it : Nat → Nat → Nat
  | 0, x => x
  | k + 1, x => it k (s0 x)

/-- The register behind a text. -/
def reg (r : Nat) (l : List UInt8) : Nat := l.foldl (fun r c => it 8 (r ^^^ c.toNat)) r

def crc (l : List UInt8) : Nat := reg 4294967295 l ^^^ 4294967295

theorem xor_half (a b : Nat) : (a ^^^ b) / 2 = a / 2 ^^^ b / 2 := by
  have := Nat.shiftRight_xor_distrib (a := a) (b := b) (i := 1)
  simpa [Nat.shiftRight_eq_div_pow] using this

theorem xor_odd (a b : Nat) : (a ^^^ b) % 2 = (a % 2 + b % 2) % 2 := by
  have h := Nat.testBit_xor a b 0
  simp only [Nat.testBit_zero] at h
  rcases Nat.mod_two_eq_zero_or_one a with ha | ha <;> rcases Nat.mod_two_eq_zero_or_one b with hb | hb <;> rcases Nat.mod_two_eq_zero_or_one (a ^^^ b) with hc | hc <;> simp [ha, hb, hc] at h ⊢

theorem s0_xor (a b : Nat) : s0 (a ^^^ b) = s0 a ^^^ s0 b := by
  unfold s0
  have h := xor_odd a b
  rw [xor_half]
  rcases Nat.mod_two_eq_zero_or_one a with ha | ha <;> rcases Nat.mod_two_eq_zero_or_one b with hb | hb <;> rw [ha, hb] at h <;> simp [h, ha, hb]
  · rw [Nat.xor_assoc]
  · rw [Nat.xor_assoc, Nat.xor_comm (b / 2), Nat.xor_assoc]
  · rw [Nat.xor_assoc, ← Nat.xor_assoc 3988292384, Nat.xor_comm 3988292384, Nat.xor_assoc (b / 2), Nat.xor_self, Nat.xor_zero]

theorem it_xor (k a b : Nat) : it k (a ^^^ b) = it k a ^^^ it k b := by
  induction k generalizing a b with
  | zero => rfl
  | succ k ih => rw [it, it, it, s0_xor, ih]

theorem it_add (j k x : Nat) : it (j + k) x = it k (it j x) := by
  induction j generalizing x with
  | zero => simp [it]
  | succ j ih => rw [Nat.succ_add, it, it, ih]

theorem s0_double (x : Nat) : s0 (x * 2) = x := by
  unfold s0
  rw [if_neg (by omega)]
  omega

theorem it_shift (k x : Nat) : it k (x * 2 ^ k) = x := by
  induction k generalizing x with
  | zero => simp [it]
  | succ k ih => rw [it, Nat.pow_succ, ← Nat.mul_assoc, s0_double, ih]

theorem s0_lt (x : Nat) (h : x < 4294967296) : s0 x < 4294967296 := by
  unfold s0
  split
  · exact Nat.xor_lt_two_pow (n := 32) (by omega) (by omega)
  · omega

theorem s0_ne (x : Nat) (h : x < 4294967296) (h0 : x ≠ 0) : s0 x ≠ 0 := by
  unfold s0
  split
  · intro e
    have e2 : x / 2 = 3988292384 := by
      have := congrArg (fun y => y ^^^ 3988292384) e
      simp only [Nat.xor_assoc, Nat.xor_self, Nat.xor_zero, Nat.zero_xor] at this
      exact this
    omega
  · omega

theorem it_lt (k x : Nat) (h : x < 4294967296) : it k x < 4294967296 := by
  induction k generalizing x with
  | zero => exact h
  | succ k ih => exact ih _ (s0_lt x h)

theorem it_ne (k x : Nat) (h : x < 4294967296) (h0 : x ≠ 0) : it k x ≠ 0 := by
  induction k generalizing x with
  | zero => exact h0
  | succ k ih => exact ih _ (s0_lt x h) (s0_ne x h h0)

theorem it_zero (k : Nat) : it k 0 = 0 := by
  induction k with
  | zero => rfl
  | succ k ih => rw [it]; exact ih

theorem xor_eq_zero {a b : Nat} (h : a ^^^ b = 0) : a = b := by
  have := congrArg (fun y => y ^^^ b) h
  simpa [Nat.xor_assoc, Nat.xor_self] using this

theorem it_inj (k x y : Nat) (hx : x < 4294967296) (hy : y < 4294967296) (h : it k x = it k y) : x = y := by
  apply xor_eq_zero
  refine Classical.byContradiction fun h0 => it_ne k _ (Nat.xor_lt_two_pow (n := 32) hx hy) h0 ?_
  rw [it_xor, h, Nat.xor_self]

/-- A byte below, the rest above. -/
theorem low_high (a b : Nat) (h : a < 256) : a + 256 * b = a ^^^ (b * 2 ^ 8) := by
  have := Nat.shiftLeft_add_eq_or_of_lt (i := 8) (b := a) (by omega) b
  rw [Nat.shiftLeft_eq] at this
  have h2 : a ^^^ (b * 2 ^ 8) = b * 2 ^ 8 ||| a := by
    apply Nat.eq_of_testBit_eq
    intro i
    simp only [Nat.testBit_xor, Nat.testBit_or, Nat.testBit_mul_two_pow]
    by_cases hi : 8 ≤ i
    · have : a.testBit i = false := Nat.testBit_lt_two_pow (Nat.lt_of_lt_of_le h (by
        show 2 ^ 8 ≤ 2 ^ i
        exact Nat.pow_le_pow_right (by decide) hi))
      simp [this, hi]
    · simp [hi]
  rw [h2, ← this]
  omega

theorem reg_eq (r : Nat) (l : List UInt8) : reg r l = it (8 * l.length) (r ^^^ say l) := by
  induction l generalizing r with
  | nil => simp [reg, say, it]
  | cons c l ih =>
    have h := ih (it 8 (r ^^^ c.toNat))
    unfold reg at h ⊢
    rw [List.foldl_cons, h, say, low_high _ _ c.toNat_lt, ← Nat.xor_assoc, List.length_cons, show 8 * (l.length + 1) = 8 + 8 * l.length by omega, it_add, it_xor 8 (r ^^^ c.toNat), it_shift]

theorem reg_append (r : Nat) (l m : List UInt8) : reg r (l ++ m) = reg (reg r l) m := by
  unfold reg
  rw [List.foldl_append]

theorem reg_lt (r : Nat) (h : r < 4294967296) (l : List UInt8) : reg r l < 4294967296 := by
  induction l generalizing r with
  | nil => exact h
  | cons c l ih =>
    have hc := c.toNat_lt
    exact ih _ (it_lt 8 _ (Nat.xor_lt_two_pow (n := 32) h (by omega)))

theorem crc_lt (l : List UInt8) : crc l < 4294967296 := Nat.xor_lt_two_pow (n := 32) (reg_lt _ (by omega) l) (by omega)

theorem say_put4 (n : Nat) (h : n < 4294967296) : say (put 4 n) = n := by
  rw [Rc2.say_put]
  exact Nat.mod_eq_of_lt h

theorem say_lt4 (m : List UInt8) (h : m.length = 4) : say m < 4294967296 := by
  have := Rc2.say_lt m
  rw [h] at this
  exact this

theorem xor_swap (a b c : Nat) : a ^^^ b = c ↔ b = a ^^^ c := by
  constructor
  · intro h; rw [← h, ← Nat.xor_assoc, Nat.xor_self, Nat.zero_xor]
  · intro h; rw [h, ← Nat.xor_assoc, Nat.xor_self, Nat.zero_xor]

/-- Four bytes behind a text are its sum just if the register behind all is this one. -/
theorem sealed_iff (l m : List UInt8) (h : m.length = 4) : reg 4294967295 (l ++ m) = it 32 4294967295 ↔ m = put 4 (crc l) := by
  rw [reg_append, reg_eq (reg 4294967295 l) m, h]
  have hr := reg_lt 4294967295 (by omega) l
  have hm := say_lt4 m h
  constructor
  · intro e
    have e1 := it_inj _ _ _ (Nat.xor_lt_two_pow (n := 32) hr hm) (by omega) e
    have e2 : say m = crc l := (xor_swap _ _ _).1 e1
    rw [← e2, ← h, Rc2.put_say]
  · intro e
    have e2 : say m = crc l := by rw [e]; exact say_put4 _ (crc_lt l)
    rw [e2, show reg 4294967295 l ^^^ crc l = 4294967295 from (xor_swap _ _ _).2 rfl]

/-- Bits turned within 32 beside one another. -/
theorem turned_ne (n at' w : Nat) (hw : w < 4294967296) (h0 : w ≠ 0) (ha : at' ≤ 8 * n) : it (8 * n) (w * 2 ^ at') ≠ 0 := by
  rw [show 8 * n = at' + (8 * n - at') by omega, it_add, it_shift]
  exact it_ne _ _ hw h0

theorem reg_turned (r : Nat) (l m : List UInt8) (e : Nat) (hl : m.length = l.length) (h : say m = say l ^^^ e) : reg r m = reg r l ^^^ it (8 * l.length) e := by
  rw [reg_eq, reg_eq, hl, h, ← it_xor, Nat.xor_assoc]

theorem say_xor_low (a : UInt8) (l : List UInt8) (y : Nat) (h : y < 256) : say (UInt8.ofNat (a.toNat ^^^ y) :: l) = say (a :: l) ^^^ y := by
  have ha := a.toNat_lt
  have hx : a.toNat ^^^ y < 256 := Nat.xor_lt_two_pow (n := 8) (by omega) (by omega)
  have e : (UInt8.ofNat (a.toNat ^^^ y)).toNat = a.toNat ^^^ y := by rw [UInt8.toNat_ofNat']; exact Nat.mod_eq_of_lt hx
  simp only [say]
  rw [e, low_high _ _ hx, low_high _ _ ha, Nat.xor_assoc, Nat.xor_comm y, ← Nat.xor_assoc]

theorem say_cons_xor (a : UInt8) (l m : List UInt8) (e : Nat) (h : say m = say l ^^^ e) : say (a :: m) = say (a :: l) ^^^ e * 2 ^ 8 := by
  have ha := a.toNat_lt
  simp only [say]
  rw [h, low_high _ _ ha, low_high _ _ ha, Nat.xor_assoc]
  congr 1
  have := Nat.shiftLeft_xor_distrib (a := say l) (b := e) (i := 8)
  simpa [Nat.shiftLeft_eq] using this

/-- A bit of a byte turned, in a text. -/
theorem say_set (l : List UInt8) (i : Nat) (h : i < l.length) (y : Nat) (hy : y < 256) : say (l.set i (UInt8.ofNat ((l[i]'h).toNat ^^^ y))) = say l ^^^ y * 2 ^ (8 * i) := by
  induction l generalizing i with
  | nil => simp at h
  | cons a l ih =>
    match i, h with
    | 0, _ => simpa using say_xor_low a l y hy
    | i + 1, h =>
      have := ih i (by simpa using h)
      simp only [List.set_cons_succ, List.getElem_cons_succ]
      rw [say_cons_xor a l _ _ this, Nat.mul_assoc, ← Nat.pow_add, show 8 * i + 8 = 8 * (i + 1) by omega]

/-- Two texts of one length, bit by bit. -/
def zip (l m : List UInt8) : List UInt8 := List.zipWith (fun a b => a ^^^ b) l m

theorem reg_zip (r q : Nat) (l m : List UInt8) (h : l.length = m.length) : reg (r ^^^ q) (zip l m) = reg r l ^^^ reg q m := by
  induction l generalizing r q m with
  | nil =>
    match m, h with
    | [], _ => rfl
  | cons a l ih =>
    match m, h with
    | b :: m, h =>
      have h1 := ih (it 8 (r ^^^ a.toNat)) (it 8 (q ^^^ b.toNat)) m (by simpa using h)
      unfold reg zip at h1 ⊢
      simp only [List.zipWith_cons_cons, List.foldl_cons]
      rw [← h1, ← it_xor, UInt8.toNat_xor]
      congr 2
      rw [Nat.xor_assoc, Nat.xor_assoc]
      congr 1
      rw [← Nat.xor_assoc, ← Nat.xor_assoc, Nat.xor_comm q]

theorem zip_length (l m : List UInt8) (h : l.length = m.length) : (zip l m).length = l.length := by
  unfold zip
  rw [List.length_zipWith, h]
  exact Nat.min_self _

theorem crc_affine (a b c : List UInt8) (hb : a.length = b.length) (hc : a.length = c.length) : crc (zip (zip a b) c) = crc a ^^^ crc b ^^^ crc c := by
  have h1 := reg_zip 0 4294967295 (zip a b) c (by rw [zip_length a b hb, hc])
  have h2 := reg_zip 4294967295 4294967295 a b hb
  rw [Nat.xor_self] at h2
  rw [Nat.zero_xor, h2] at h1
  unfold crc
  rw [h1]
  generalize reg 4294967295 a = x
  generalize reg 4294967295 b = y
  generalize reg 4294967295 c = z
  apply Nat.eq_of_testBit_eq
  intro i
  simp only [Nat.testBit_xor]
  cases x.testBit i <;> cases y.testBit i <;> cases z.testBit i <;> cases (4294967295 : Nat).testBit i <;> rfl

/-- One byte more. -/
theorem crc_snoc (l : List UInt8) (c : UInt8) : crc (l ++ [c]) = it 8 (crc l ^^^ 4294967295 ^^^ c.toNat) ^^^ 4294967295 := by
  unfold crc
  rw [reg_append, Nat.xor_assoc (reg 4294967295 l), Nat.xor_self, Nat.xor_zero]
  rfl

/-- By a table: the low byte's, and the rest below. -/
theorem it_table (x : Nat) : it 8 x = it 8 (x % 256) ^^^ x / 256 := by
  have h : x = x % 256 ^^^ (x / 256) * 2 ^ 8 := by
    rw [← low_high _ _ (Nat.mod_lt _ (by decide))]
    omega
  have h2 := congrArg (it 8) h
  rw [it_xor, it_shift] at h2
  exact h2

end Go.Rc3

namespace Go.Proofs.Yteellffkjjllgaa
open Go.RowKit

theorem and1 (x : Nat) (h : x < 4294967296) : bits BinOp.and IntKind.u32 (x : Int) 1 = ((x % 2 : Nat) : Int) := by
  have := u32_and_nat x 1 h (by decide)
  rw [nat_mask1] at this
  exact this

theorem xorP (x : Nat) (h : x < 4294967296) : bits BinOp.xor IntKind.u32 (x : Int) 3988292384 = ((x ^^^ 3988292384 : Nat) : Int) :=
  u32_xor_nat x 3988292384 h (by decide)

theorem it_snoc (k x : Nat) : Rc3.it (k + 1) x = Rc3.s0 (Rc3.it k x) := Rc3.it_add k 1 x

set_option maxHeartbeats 1000000 in
theorem shifted_any (x : Nat) (hx : x < 4294967296) (w : World) :
    Calls Try.prog 88 #[.int .u32 (x : Int)] w fun e w' => e = .returned (.int .u32 ((Rc3.it 4 x : Nat) : Int)) ∧ w = w' := by
  have HX := Lib.hid hx
  clear hx
  go_enter Try.func88, Try.ntmps88
  go_wp2
  go_loop [0, 4] (fun r i => ∃ k y : Nat, k ≤ 4 ∧ Hid (y = Rc3.it k x ∧ y < 4294967296) ∧ r = .int .u32 (y : Int) ∧ i = .int .i64 k) (fun _ i => (4 - intOf i).toNat)
  case atStart => exact ⟨0, x, by omega, ⟨rfl, HX.out⟩, rfl, rfl⟩
  case round =>
    obtain ⟨k, y, hk, hy, rfl, rfl⟩ := hrel
    by_cases hlt : k < 4
    · have ha := and1 y hy.out.2
      rcases Nat.mod_two_eq_zero_or_one y with hm | hm <;> rw [hm] at ha
      · have HM := Lib.hid hm
        clear hm
        go_wp2
        go_round
        case rel => exact ⟨k + 1, y / 2, by omega, ⟨by rw [it_snoc, ← hy.out.1]; unfold Rc3.s0; rw [if_neg (by have := HM.out; omega)], by have := hy.out; omega⟩, by go_num, by go_num⟩
        case measure => simp [intOf]; omega
      · have HM := Lib.hid hm
        clear hm
        have hq : bits BinOp.xor IntKind.u32 ((y : Int) / 2) 3988292384 = ((y / 2 ^^^ 3988292384 : Nat) : Int) := xorP (y / 2) (by have := hy.out; omega)
        go_wp2
        go_round
        case rel => exact ⟨k + 1, y / 2 ^^^ 3988292384, by omega, ⟨by rw [it_snoc, ← hy.out.1]; unfold Rc3.s0; rw [if_pos HM.out], Nat.xor_lt_two_pow (n := 32) (by have := hy.out; omega) (by decide)⟩, by go_num, by go_num⟩
        case measure => simp [intOf]; omega
    · obtain rfl : k = 4 := by omega
      go_wp2
      go_ret
      rw [hy.out.1]
      exact ⟨rfl, rfl⟩

end Go.Proofs.Yteellffkjjllgaa

namespace Go.Proofs.Yteellffkjjllgaa
open Go.RowKit

theorem below_at {B : Nat} {a w : World} (h : Below B a w) (j : Nat) (u : Value) : Below B a (w.setCell ⟨B, j, none⟩ u) := h.setCell (p := ⟨B, j, none⟩) (Nat.le_refl _) u

def tabV : Value := .agg ((List.range 16).map fun j => Value.int .u32 ((Rc3.it 4 j : Nat) : Int)).toArray

def TabAt (b k : Nat) (wr : World) : Prop :=
  (∀ j, j < 16 → ∃ v, wr.cell? ⟨b, j, none⟩ = some v) ∧ (∀ j, wr.frozen? ⟨b, j, none⟩ = false) ∧ ∀ j, j < k → wr.cell? ⟨b, j, none⟩ = some (.int .u32 ((Rc3.it 4 j : Nat) : Int))

theorem TabAt.other {b c k j : Nat} {wr : World} (h : TabAt b k wr) (hne : b ≠ c) (u : Value) : TabAt b k (wr.setCell ⟨c, j, none⟩ u) := by
  have hset : ∀ i, (wr.setCell ⟨c, j, none⟩ u).cell? ⟨b, i, none⟩ = wr.cell? ⟨b, i, none⟩ := fun i => World.cell?_setCell_other _ _ _ _ (by simp)
  refine ⟨fun i hi => ?_, fun i => ?_, fun i hi => ?_⟩
  · rw [hset]; exact h.1 i hi
  · rw [World.frozen?_setCell]; exact h.2.1 i
  · rw [hset]; exact h.2.2 i hi

theorem TabAt.store {b k : Nat} {wr : World} (h : TabAt b k wr) (hk : k < 16) : TabAt b (k + 1) (wr.setCell ⟨b, k, none⟩ (.int .u32 ((Rc3.it 4 k : Nat) : Int))) := by
  obtain ⟨hv, hf, hc⟩ := h
  obtain ⟨v, hv0⟩ := hv k hk
  have hset : ∀ j, j ≠ k → ∀ u, (wr.setCell ⟨b, k, none⟩ u).cell? ⟨b, j, none⟩ = wr.cell? ⟨b, j, none⟩ := fun j hj u => World.cell?_setCell_other _ _ _ _ (by first | (simp; done) | (simp; omega))
  have hsame : ∀ u, (wr.setCell ⟨b, k, none⟩ u).cell? ⟨b, k, none⟩ = some u := fun u => World.cell?_setCell_same _ _ _ hv0
  refine ⟨fun j hj => ?_, fun j => ?_, fun j hj => ?_⟩
  · by_cases e : j = k
    · rw [e]; exact ⟨_, hsame _⟩
    · rw [hset j e]; exact hv j hj
  · rw [World.frozen?_setCell]; exact hf j
  · by_cases e : j = k
    · rw [e]; exact hsame _
    · rw [hset j e]; exact hc j (by omega)

def Tab (w : World) (k : Nat) (wr : World) : Prop :=
  Below w.heap.size w wr ∧ w.heap.size + 2 = wr.heap.size ∧ TabAt w.heap.size 0 wr ∧ TabAt (w.heap.size + 1) k wr

set_option maxHeartbeats 1000000 in
theorem shifts_any (w : World) :
    Calls Try.prog 75 #[] w fun e w' => e = .returned tabV ∧ Below w.heap.size w w' := by
  go_enter Try.func75, Try.ntmps75
  go_wp2
  go_loopw [3] (fun i wr => ∃ k : Nat, i = .int .i64 k ∧ k ≤ 16 ∧ Tab w k wr) (fun i _ => (16 - intOf i).toNat)
  case atStart =>
    refine ⟨0, rfl, by omega, ((Below.refl _ w).alloc (Nat.le_refl _) _).alloc (by simp) _, by simp, ⟨fun j hj => ?_, fun j => ?_, fun j hj => by omega⟩, ⟨fun j hj => ?_, fun j => ?_, fun j hj => by omega⟩⟩
    · rw [World.cell?_alloc_old _ _ _ (by simp), World.cell?_alloc_new]
      exact ⟨_, Array.getElem?_eq_getElem (by simpa using hj)⟩
    · rw [World.frozen?_alloc_old _ _ _ (by simp)]
      exact World.frozen?_alloc_new _ _ _ _
    · have e : w.heap.size + 1 = (w.alloc (.cells #[.int .u32 0, .int .u32 0, .int .u32 0, .int .u32 0, .int .u32 0, .int .u32 0, .int .u32 0, .int .u32 0, .int .u32 0, .int .u32 0, .int .u32 0, .int .u32 0, .int .u32 0, .int .u32 0, .int .u32 0, .int .u32 0] 119 (0, 0))).heap.size := by simp
      rw [e, World.cell?_alloc_new]
      exact ⟨_, Array.getElem?_eq_getElem (by simpa using hj)⟩
    · have e : w.heap.size + 1 = (w.alloc (.cells #[.int .u32 0, .int .u32 0, .int .u32 0, .int .u32 0, .int .u32 0, .int .u32 0, .int .u32 0, .int .u32 0, .int .u32 0, .int .u32 0, .int .u32 0, .int .u32 0, .int .u32 0, .int .u32 0, .int .u32 0, .int .u32 0] 119 (0, 0))).heap.size := by simp
      rw [e]
      exact World.frozen?_alloc_new _ _ _ _
  case round =>
    obtain ⟨k, rfl, hk, hT⟩ := hrel
    by_cases hlt : k < 16
    · obtain ⟨v, hc⟩ := hT.2.2.2.1 k hlt
      have hf := hT.2.2.2.2.1 k
      have HT := Lib.hid hT
      clear hT
      have HS := Lib.hid (shifted_any k (by omega))
      go_wp2_with (go_at_call 88; ((with_reducible refine (HS.out _).mono ?_)); rintro e w1 ⟨rfl, rfl⟩)
      go_roundw
      case rel =>
        obtain ⟨hb, hz, ha, hr⟩ := HT.out
        refine ⟨k + 1, by go_num, by omega, hb.setCell (p := ⟨w.heap.size + 1, k, none⟩) (by simp) _, by simpa using hz, ha.other (by omega) _, hr.store hlt⟩
      case measure => simp [intOf]; omega
    · obtain rfl : k = 16 := by omega
      have c0 := hT.2.2.2.2.2 0 (by decide)
      have c1 := hT.2.2.2.2.2 1 (by decide)
      have c2 := hT.2.2.2.2.2 2 (by decide)
      have c3 := hT.2.2.2.2.2 3 (by decide)
      have c4 := hT.2.2.2.2.2 4 (by decide)
      have c5 := hT.2.2.2.2.2 5 (by decide)
      have c6 := hT.2.2.2.2.2 6 (by decide)
      have c7 := hT.2.2.2.2.2 7 (by decide)
      have c8 := hT.2.2.2.2.2 8 (by decide)
      have c9 := hT.2.2.2.2.2 9 (by decide)
      have c10 := hT.2.2.2.2.2 10 (by decide)
      have c11 := hT.2.2.2.2.2 11 (by decide)
      have c12 := hT.2.2.2.2.2 12 (by decide)
      have c13 := hT.2.2.2.2.2 13 (by decide)
      have c14 := hT.2.2.2.2.2 14 (by decide)
      have c15 := hT.2.2.2.2.2 15 (by decide)
      obtain ⟨v0, d0⟩ := hT.2.2.1.1 0 (by decide)
      have f0 := hT.2.2.1.2.1 0
      obtain ⟨v1, d1⟩ := hT.2.2.1.1 1 (by decide)
      have f1 := hT.2.2.1.2.1 1
      obtain ⟨v2, d2⟩ := hT.2.2.1.1 2 (by decide)
      have f2 := hT.2.2.1.2.1 2
      obtain ⟨v3, d3⟩ := hT.2.2.1.1 3 (by decide)
      have f3 := hT.2.2.1.2.1 3
      obtain ⟨v4, d4⟩ := hT.2.2.1.1 4 (by decide)
      have f4 := hT.2.2.1.2.1 4
      obtain ⟨v5, d5⟩ := hT.2.2.1.1 5 (by decide)
      have f5 := hT.2.2.1.2.1 5
      obtain ⟨v6, d6⟩ := hT.2.2.1.1 6 (by decide)
      have f6 := hT.2.2.1.2.1 6
      obtain ⟨v7, d7⟩ := hT.2.2.1.1 7 (by decide)
      have f7 := hT.2.2.1.2.1 7
      obtain ⟨v8, d8⟩ := hT.2.2.1.1 8 (by decide)
      have f8 := hT.2.2.1.2.1 8
      obtain ⟨v9, d9⟩ := hT.2.2.1.1 9 (by decide)
      have f9 := hT.2.2.1.2.1 9
      obtain ⟨v10, d10⟩ := hT.2.2.1.1 10 (by decide)
      have f10 := hT.2.2.1.2.1 10
      obtain ⟨v11, d11⟩ := hT.2.2.1.1 11 (by decide)
      have f11 := hT.2.2.1.2.1 11
      obtain ⟨v12, d12⟩ := hT.2.2.1.1 12 (by decide)
      have f12 := hT.2.2.1.2.1 12
      obtain ⟨v13, d13⟩ := hT.2.2.1.1 13 (by decide)
      have f13 := hT.2.2.1.2.1 13
      obtain ⟨v14, d14⟩ := hT.2.2.1.1 14 (by decide)
      have f14 := hT.2.2.1.2.1 14
      obtain ⟨v15, d15⟩ := hT.2.2.1.1 15 (by decide)
      have f15 := hT.2.2.1.2.1 15
      have HT := Lib.hid hT
      clear hT
      go_wp2
      refine bodyPost_ret (v := tabV) ?_ rfl ⟨rfl, ?_⟩
      · simp [results, Try.results75, go_sem, tabV, d0, d1, d2, d3, d4, d5, d6, d7, d8, d9, d10, d11, d12, d13, d14, d15]
      · have hB := HT.out.1
        iterate 16 (with_reducible refine below_at ?_ _ _)
        exact hB

end Go.Proofs.Yteellffkjjllgaa
