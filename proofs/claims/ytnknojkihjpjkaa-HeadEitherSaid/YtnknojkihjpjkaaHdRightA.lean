/-
  Whether a head is right: what the program's need, slotted and Right answer, test by test. Conditions: as each theorem states them.
-/
import Derived.Test.YtnknojkihjpjkaaHsRt
import Derived.Test.YtnknojkihjpjkaaHdMath
import Derived.Test.YtnknojkihjpjkaaTail
namespace Go.Rc6
open Go.Rc5

/-- The numbers and the row are those of a head. -/
structure Is (g : Nat) (s z : Int) (L : List SpI) (h : Hd) : Prop where
  gen : g = h.gen
  sectors : s = (h.sectors : Int)
  size : z = (h.size : Int)
  spans : L = castS h.spans

def HdGood (g : Nat) (s z : Int) (L : List SpI) : Prop := ∃ h : Hd, h.Ok ∧ Is g s z L h

theorem good_fits {g : Nat} {s z : Int} {L : List SpI} (h : HdGood g s z L) : ∃ N n, s = ((n : Nat) : Int) ∧ Fits L N n ∧ Ch 0 N ∧ memB N 0 = false ∧ memB N 1 = false ∧ 0 ≤ z ∧ total N = need z.toNat ∧ 2 ≤ s ∧ s ≤ 8192 ∧ L.length ≤ 8 := by
  obtain ⟨h, k, i⟩ := h
  have h1 := k.low
  have h2 := k.high
  have h3 := k.few
  refine ⟨h.spans, h.sectors, i.sectors, ⟨by omega, by omega, i.spans, k.chain.some, k.fit⟩, k.chain, k.not0, k.not1, by rw [i.size]; omega, ?_, by rw [i.sectors]; omega, by rw [i.sectors]; omega, by rw [i.spans, castS_length]; exact h3⟩
  rw [i.size, k.total]
  rfl

theorem fits_same {L : List SpI} {N N' : List Sp} {n n' : Nat} (h : Fits L N n) (h' : Fits L N' n') : N = N' := castS_inj (h.eq.symm.trans h'.eq)

theorem good_of {g : Nat} (hg : g < 18446744073709551616) {s z : Int} {L : List SpI} {N : List Sp} {n : Nat} (hs : s = (n : Int)) (hf : Fits L N n) (hc : Ch 0 N) (h0 : memB N 0 = false) (h1 : memB N 1 = false) (hz : 0 ≤ z) (ht : total N = need z.toNat) (h2 : 2 ≤ s) (h8 : L.length ≤ 8) : HdGood g s z L := by
  refine ⟨⟨g, n, z.toNat, N⟩, ⟨hg, ?_, hf.hi, ?_, hc, hf.fit, h0, h1, ht⟩, ⟨rfl, hs, by show z = ((z.toNat : Nat) : Int); omega, hf.eq⟩⟩
  · show 2 ≤ n
    omega
  · show N.length ≤ 8
    rw [hf.eq, castS_length] at h8
    exact h8

theorem beq_dec (t n : Int) : (t == n) = decide (t = n) := by
  rw [Bool.eq_iff_iff]
  simp

end Go.Rc6
namespace Go.Proofs.Ytnknojkihjpjkaa
open Go.RowKit Go.Rc5 Go.Rc6

set_option maxHeartbeats 1000000 in
theorem need_any (z : Nat) (hz : z ≤ 9223372036854775807) (w : World) : Calls Try.prog 31 #[.int .i64 (z : Int)] w fun e w' => e = .returned (.int .i64 (need z)) ∧ w' = w := by
  have hn : need z = z / 64 + if z % 64 > 0 then 1 else 0 := rfl
  by_cases h : z % 64 = 0
  · rw [if_neg (by omega)] at hn
    have HN := Lib.hid hn
    have h1 : (z : Int) % 64 = 0 := by omega
    clear h hn
    go_enter Try.func31, Try.ntmps31
    go_wp2
    go_ret
    rw [HN.out]
    exact ⟨by simp, rfl⟩
  · rw [if_pos (by omega)] at hn
    have HN := Lib.hid hn
    have h1 : ¬ (z : Int) % 64 = 0 := by omega
    have h2 : (z : Int) / 64 ≤ 9223372036854775806 := by omega
    clear h hn
    go_enter Try.func31, Try.ntmps31
    go_wp2
    go_ret
    rw [HN.out]
    exact ⟨by simp, rfl⟩

set_option maxHeartbeats 1000000 in
theorem needR_any (z : Nat) (hz : z ≤ 9223372036854775807) (w : World) : Calls Try.prog 35 #[.int .i64 (z : Int)] w fun e w' => e = .returned (.int .i64 (need z)) ∧ w' = w := by
  have hn : need z = z / 64 + if z % 64 > 0 then 1 else 0 := rfl
  by_cases h : z % 64 = 0
  · rw [if_neg (by omega)] at hn
    have HN := Lib.hid hn
    have h1 : ¬ 0 < (z : Int) % 64 := by omega
    clear h hn
    go_enter Try.func35, Try.ntmps35
    go_wp2
    go_ret
    rw [HN.out]
    exact ⟨by simp, rfl⟩
  · rw [if_pos (by omega)] at hn
    have HN := Lib.hid hn
    have h1 : 0 < (z : Int) % 64 := by omega
    have h2 : (z : Int) / 64 ≤ 9223372036854775806 := by omega
    clear h hn
    go_enter Try.func35, Try.ntmps35
    go_wp2
    go_ret
    rw [HN.out]
    exact ⟨by simp, rfl⟩

set_option maxHeartbeats 1000000 in
theorem slotted_any (N : List Sp) (a : Option Addr) (c len : Nat) (w : World) (h : SpansAt w a (castS N)) (hl : N.length = len) (hlen : len ≤ 100000) (hm : ∀ s ∈ N, s.1 + s.2 ≤ 8192) :
    Calls Try.prog 29 #[.slice a len c] w fun e w' => e = .returned (.bool (memB N 0 || memB N 1)) ∧ Below w.heap.size w w' := by
  have H0 := phas_any N a c len 0 (by omega)
  have H1 := phas_any N a c len 1 (by omega)
  rw [show hasI N 0 = memB N 0 from hasI_nat N 0] at H0
  rw [show hasI N 1 = memB N 1 from hasI_nat N 1] at H1
  have HH0 := Lib.hid (fun W (hb : Below w.heap.size w W) => H0 W (SpansAt.below h hb) hl hlen hm)
  have HH1 := Lib.hid (fun W (hb : Below w.heap.size w W) => H1 W (SpansAt.below h hb) hl hlen hm)
  clear h hl hlen hm H0 H1
  generalize memB N 0 = b0 at *
  generalize memB N 1 = b1 at *
  go_enter Try.func29, Try.ntmps29
  go_wp2
  go_loopw [3, 4] (fun _ i wr => ∃ k : Nat, i = .int .i64 k ∧ k ≤ 2 ∧ (0 < k → b0 = false) ∧ (1 < k → b1 = false) ∧ Below w.heap.size w wr) (fun _ i _ => (2 - intOf i).toNat)
  case atStart => exact ⟨0, rfl, by omega, fun h => absurd h (by omega), fun h => absurd h (by omega), Below.refl _ _⟩
  case round =>
    obtain ⟨k, rfl, hk, e0, e1, hB⟩ := hrel
    have E0 := Lib.hid e0
    have E1 := Lib.hid e1
    clear e0 e1
    have hk3 : k = 0 ∨ k = 1 ∨ k = 2 := by omega
    rcases hk3 with rfl | rfl | rfl
    · cases b0 with
      | true =>
        go_wp2_with (go_at_call 51; refine (HH0.out _ hB).mono ?_; rintro e w1 ⟨rfl, hb1⟩)
        go_ret
        exact ⟨rfl, below_trans hB hb1⟩
      | false =>
        go_wp2_with (go_at_call 51; refine (HH0.out _ hB).mono ?_; rintro e w1 ⟨rfl, hb1⟩)
        exact ⟨⟨1, by go_num, by omega, by simp, by simp, below_trans hB hb1⟩, by simp [intOf]⟩
    · obtain rfl := E0.out (by omega)
      cases b1 with
      | true =>
        go_wp2_with (go_at_call 51; refine (HH1.out _ hB).mono ?_; rintro e w1 ⟨rfl, hb1⟩)
        go_ret
        exact ⟨rfl, below_trans hB hb1⟩
      | false =>
        go_wp2_with (go_at_call 51; refine (HH1.out _ hB).mono ?_; rintro e w1 ⟨rfl, hb1⟩)
        exact ⟨⟨2, by go_num, by omega, by simp, by simp, below_trans hB hb1⟩, by simp [intOf]⟩
    · obtain rfl := E0.out (by omega)
      obtain rfl := E1.out (by omega)
      go_wp2
      go_ret
      exact ⟨rfl, hB⟩

theorem after_of {f : Nat} {args : Array Value} {v : Value} {W : World} (h : ∀ w, Below W.heap.size W w → Calls Try.prog f args w fun e w' => e = .returned v ∧ Below w.heap.size w w') (p : After W) :
    Calls Try.prog f args p.to fun e w' => e = .returned v ∧ ∃ q : After W, w' = q.to :=
  (h p.to p.is).mono fun _ w' ⟨he, hw⟩ => ⟨he, ⟨w', p.is.trans (hw.mono p.is.size)⟩, rfl⟩

theorem after_eq {f : Nat} {args : Array Value} {v : Value} {W : World} (h : ∀ w, Below W.heap.size W w → Calls Try.prog f args w fun e w' => e = .returned v ∧ w' = w) (p : After W) :
    Calls Try.prog f args p.to fun e w' => e = .returned v ∧ ∃ q : After W, w' = q.to :=
  (h p.to p.is).mono fun _ _ ⟨he, hw⟩ => ⟨he, p, hw⟩

theorem after_eq' {f : Nat} {args : Array Value} {v : Value} {W : World} (h : ∀ w, Below W.heap.size W w → Calls Try.prog f args w fun e w' => e = .returned v ∧ w = w') (p : After W) :
    Calls Try.prog f args p.to fun e w' => e = .returned v ∧ ∃ q : After W, w' = q.to :=
  (h p.to p.is).mono fun _ _ ⟨he, hw⟩ => ⟨he, p, hw.symm⟩

set_option maxRecDepth 100000 in
set_option maxHeartbeats 4000000 in
theorem right_early (g s z : Int) (a : Option Addr) (c len : Nat) (w : World) (hc : s < 2 ∨ (2 ≤ s ∧ 8192 < s) ∨ (2 ≤ s ∧ s ≤ 8192 ∧ 8 < len)) :
    Calls Try.prog 13 #[.agg #[.int .u64 g, .int .i64 s, .int .i64 z, .slice a len c]] w fun e w' => e = .returned (.bool false) ∧ Below w.heap.size w w' := by
  have C := (Crew.start w).block #[.int .u64 g, .int .i64 s, .int .i64 z, .slice a len c] 25
  have hb := C.bel
  have c1 := fun p => after_cell (C.at 0 rfl (j := 1) rfl).1 (C.lt 0 rfl) p
  have c3 := fun p => after_cell (C.at 0 rfl (j := 3) rfl).1 (C.lt 0 rfl) p
  have HB := Lib.hid hb
  clear C hb
  rcases hc with h | ⟨h1, h⟩ | ⟨h1, h2, h⟩
  · have d1 : decide (2 ≤ s) = false := decide_eq_false (by omega)
    go_enter Try.func13, Try.ntmps13
    go_wp2_with fail
    refine wp_region_after (by kernel_rfl) (by kernel_rfl) ?_
    repeat (go_big_quiet_step (fail))
    refine wpQuiet_nil ?_
    intro _ hw
    obtain ⟨p, rfl⟩ := hw
    have HP := Lib.hid p.is
    generalize p.to = wp at *
    go_wp2
    go_ret
    exact ⟨rfl, HB.out.trans (HP.out.mono HB.out.size)⟩
  · have d1 : decide (2 ≤ s) = true := decide_eq_true h1
    have d2 : decide (s ≤ 8192) = false := decide_eq_false (by omega)
    go_enter Try.func13, Try.ntmps13
    go_wp2_with fail
    refine wp_region_after (by kernel_rfl) (by kernel_rfl) ?_
    repeat (go_big_quiet_step (fail))
    refine wpQuiet_nil ?_
    intro _ hw
    obtain ⟨p, rfl⟩ := hw
    have HP := Lib.hid p.is
    generalize p.to = wp at *
    go_wp2
    go_ret
    exact ⟨rfl, HB.out.trans (HP.out.mono HB.out.size)⟩
  · have d1 : decide (2 ≤ s) = true := decide_eq_true h1
    have d2 : decide (s ≤ 8192) = true := decide_eq_true h2
    have d3 : decide ((len : Int) ≤ 8) = false := decide_eq_false (by omega)
    go_enter Try.func13, Try.ntmps13
    go_wp2_with fail
    refine wp_region_after (by kernel_rfl) (by kernel_rfl) ?_
    repeat (go_big_quiet_step (fail))
    refine wpQuiet_nil ?_
    intro _ hw
    obtain ⟨p, rfl⟩ := hw
    have HP := Lib.hid p.is
    generalize p.to = wp at *
    go_wp2
    go_ret
    exact ⟨rfl, HB.out.trans (HP.out.mono HB.out.size)⟩

set_option maxRecDepth 100000 in
set_option maxHeartbeats 8000000 in
theorem right_late (g s z : Int) (a : Option Addr) (c len : Nat) (w : World) (h1 : 2 ≤ s) (h2 : s ≤ 8192) (h3 : len ≤ 8) (r1 r2 r3 : Bool) (t n : Int)
    (HR : ∀ W, Below w.heap.size w W → Calls Try.prog 28 #[.slice a len c, .int .i64 s] W fun e w' => e = .returned (.bool r1) ∧ Below W.heap.size W w')
    (HS : r1 = true → ∀ W, Below w.heap.size w W → Calls Try.prog 29 #[.slice a len c] W fun e w' => e = .returned (.bool r2) ∧ Below W.heap.size W w')
    (hz : decide (0 ≤ z) = r3)
    (HT : r1 = true → ∀ W, Below w.heap.size w W → Calls Try.prog 30 #[.slice a len c] W fun e w' => e = .returned (.int .i64 t) ∧ Below W.heap.size W w')
    (HN : r3 = true → ∀ W, Below w.heap.size w W → Calls Try.prog 31 #[.int .i64 z] W fun e w' => e = .returned (.int .i64 n) ∧ w' = W) :
    Calls Try.prog 13 #[.agg #[.int .u64 g, .int .i64 s, .int .i64 z, .slice a len c]] w fun e w' => e = .returned (.bool (((r1 && !r2) && r3) && decide (t = n))) ∧ Below w.heap.size w w' := by
  have C := (Crew.start w).block #[.int .u64 g, .int .i64 s, .int .i64 z, .slice a len c] 25
  have hb := C.bel
  have c1 := fun p => after_cell (C.at 0 rfl (j := 1) rfl).1 (C.lt 0 rfl) p
  have c2 := fun p => after_cell (C.at 0 rfl (j := 2) rfl).1 (C.lt 0 rfl) p
  have c3 := fun p => after_cell (C.at 0 rfl (j := 3) rfl).1 (C.lt 0 rfl) p
  have GR := Lib.hid (fun p => after_of (W := w.alloc (.cells #[.int .u64 g, .int .i64 s, .int .i64 z, .slice a len c] 25)) (fun W hW => HR W (below_trans hb hW)) p)
  have GS := Lib.hid (fun e p => after_of (W := w.alloc (.cells #[.int .u64 g, .int .i64 s, .int .i64 z, .slice a len c] 25)) (fun W hW => HS e W (below_trans hb hW)) p)
  have GT := Lib.hid (fun e p => after_of (W := w.alloc (.cells #[.int .u64 g, .int .i64 s, .int .i64 z, .slice a len c] 25)) (fun W hW => HT e W (below_trans hb hW)) p)
  have GN := Lib.hid (fun e p => after_eq (W := w.alloc (.cells #[.int .u64 g, .int .i64 s, .int .i64 z, .slice a len c] 25)) (fun W hW => HN e W (below_trans hb hW)) p)
  have HB := Lib.hid hb
  have d1 : decide (2 ≤ s) = true := decide_eq_true h1
  have d2 : decide (s ≤ 8192) = true := decide_eq_true h2
  have d3 : decide ((len : Int) ≤ 8) = true := decide_eq_true (by omega)
  clear C hb HR HS HT HN
  cases r1 with
  | false =>
    go_enter Try.func13, Try.ntmps13
    go_wp2_with fail
    refine wp_region_after (by kernel_rfl) (by kernel_rfl) ?_
    repeat (go_big_quiet_step (first | with_reducible exact GR.out _))
    refine wpQuiet_nil ?_
    intro _ hw
    obtain ⟨p, rfl⟩ := hw
    have HP := Lib.hid p.is
    generalize p.to = wp at *
    go_wp2
    go_ret
    exact ⟨rfl, HB.out.trans (HP.out.mono HB.out.size)⟩
  | true =>
    replace GS := Lib.hid (GS.out rfl)
    replace GT := Lib.hid (GT.out rfl)
    cases r2 with
    | true =>
      go_enter Try.func13, Try.ntmps13
      go_wp2_with fail
      refine wp_region_after (by kernel_rfl) (by kernel_rfl) ?_
      repeat (go_big_quiet_step (first | with_reducible exact GR.out _ | with_reducible exact GS.out _))
      refine wpQuiet_nil ?_
      intro _ hw
      obtain ⟨p, rfl⟩ := hw
      have HP := Lib.hid p.is
      generalize p.to = wp at *
      go_wp2
      go_ret
      exact ⟨rfl, HB.out.trans (HP.out.mono HB.out.size)⟩
    | false =>
      cases r3 with
      | false =>
        go_enter Try.func13, Try.ntmps13
        go_wp2_with fail
        refine wp_region_after (by kernel_rfl) (by kernel_rfl) ?_
        repeat (go_big_quiet_step (first | with_reducible exact GR.out _ | with_reducible exact GS.out _))
        refine wpQuiet_nil ?_
        intro _ hw
        obtain ⟨p, rfl⟩ := hw
        have HP := Lib.hid p.is
        generalize p.to = wp at *
        go_wp2
        go_ret
        exact ⟨rfl, HB.out.trans (HP.out.mono HB.out.size)⟩
      | true =>
        replace GN := Lib.hid (GN.out rfl)
        go_enter Try.func13, Try.ntmps13
        go_wp2_with fail
        refine wp_region_after (by kernel_rfl) (by kernel_rfl) ?_
        repeat (go_big_quiet_step (first | with_reducible exact GR.out _ | with_reducible exact GS.out _ | with_reducible exact GT.out _ | with_reducible exact GN.out _))
        refine wpQuiet_nil ?_
        intro _ hw
        obtain ⟨p, rfl⟩ := hw
        have HP := Lib.hid p.is
        generalize p.to = wp at *
        go_wp2
        go_ret
        exact ⟨by simp; exact beq_dec t n, HB.out.trans (HP.out.mono HB.out.size)⟩

end Go.Proofs.Ytnknojkihjpjkaa
