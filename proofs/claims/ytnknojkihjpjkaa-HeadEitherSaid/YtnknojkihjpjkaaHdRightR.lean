/-
  Whether a head is right: the document's word. Conditions: the numbers and the row are such as a head's fields may hold.
-/
import Derived.Test.YtnknojkihjpjkaaHdRight
namespace Go.Proofs.Ytnknojkihjpjkaa
open Go.RowKit Go.Rc5 Go.Rc6

set_option maxRecDepth 100000 in
set_option maxHeartbeats 4000000 in
theorem rightR_early (g s z : Int) (a : Option Addr) (c len : Nat) (w : World) (hc : s < 2 ∨ (2 ≤ s ∧ 8192 < s) ∨ (2 ≤ s ∧ s ≤ 8192 ∧ 8 < len) ∨ (2 ≤ s ∧ s ≤ 8192 ∧ len ≤ 8 ∧ z < 0)) :
    Calls Try.prog 14 #[.agg #[.int .u64 g, .int .i64 s, .int .i64 z, .slice a len c]] w fun e w' => e = .returned (.bool false) ∧ Below w.heap.size w w' := by
  have HB := Lib.hid ((Crew.start w).block #[.int .u64 g, .int .i64 s, .int .i64 z, .slice a len c] 31).bel
  rcases hc with h | ⟨h1, h⟩ | ⟨h1, h2, h⟩ | ⟨h1, h2, h3, h⟩
  · go_enter Try.func14, Try.ntmps14
    go_wp2
    go_ret
    exact ⟨rfl, HB.out⟩
  · have e1 : ¬ s < 2 := by omega
    go_enter Try.func14, Try.ntmps14
    go_wp2
    go_ret
    exact ⟨rfl, HB.out⟩
  · have e1 : ¬ s < 2 := by omega
    have e2 : ¬ 8192 < s := by omega
    have e3 : (8 : Int) < len := by omega
    go_enter Try.func14, Try.ntmps14
    go_wp2
    go_ret
    exact ⟨rfl, HB.out⟩
  · have e1 : ¬ s < 2 := by omega
    have e2 : ¬ 8192 < s := by omega
    have e3 : ¬ (8 : Int) < len := by omega
    go_enter Try.func14, Try.ntmps14
    go_wp2
    go_ret
    exact ⟨rfl, HB.out⟩

set_option maxRecDepth 100000 in
set_option maxHeartbeats 8000000 in
theorem rightR_late (g s z : Int) (a : Option Addr) (c len : Nat) (w : World) (h1 : 2 ≤ s) (h2 : s ≤ 8192) (h3 : len ≤ 8) (h4 : 0 ≤ z) (r1 r2 r3 : Bool) (t n : Int)
    (HR : ∀ W, Below w.heap.size w W → Calls Try.prog 32 #[.slice a len c, .int .i64 s] W fun e w' => e = .returned (.bool r1) ∧ Below W.heap.size W w')
    (HS : r1 = true → ∀ W, Below w.heap.size w W → Calls Try.prog 33 #[.slice a len c, .int .i64 0] W fun e w' => e = .returned (.bool r2) ∧ Below W.heap.size W w')
    (HS2 : r1 = true → ∀ W, Below w.heap.size w W → Calls Try.prog 33 #[.slice a len c, .int .i64 1] W fun e w' => e = .returned (.bool r3) ∧ Below W.heap.size W w')
    (HT : r1 = true → ∀ W, Below w.heap.size w W → Calls Try.prog 34 #[.slice a len c] W fun e w' => e = .returned (.int .i64 t) ∧ W = w')
    (HN : ∀ W, Below w.heap.size w W → Calls Try.prog 35 #[.int .i64 z] W fun e w' => e = .returned (.int .i64 n) ∧ w' = W) :
    Calls Try.prog 14 #[.agg #[.int .u64 g, .int .i64 s, .int .i64 z, .slice a len c]] w fun e w' => e = .returned (.bool (((r1 && !r2) && !r3) && decide (t = n))) ∧ Below w.heap.size w w' := by
  have C := (Crew.start w).block #[.int .u64 g, .int .i64 s, .int .i64 z, .slice a len c] 31
  have hb := C.bel
  have GR := Lib.hid (HR _ hb)
  have HC := Lib.hid C
  have HB := Lib.hid hb
  have e1 : ¬ s < 2 := by omega
  have e2 : ¬ 8192 < s := by omega
  have e3 : ¬ (8 : Int) < len := by omega
  have e4 : ¬ z < 0 := by omega
  have GS := Lib.hid HS
  have GS2 := Lib.hid HS2
  have GT := Lib.hid HT
  have GN := Lib.hid HN
  clear C hb HR HS HS2 HT HN h1 h2 h3 h4
  go_enter Try.func14, Try.ntmps14
  go_wp2_with (go_at_call 32; refine GR.out.mono ?_; rintro e w1 ⟨rfl, hb1⟩)
  have HB1 := Lib.hid (below_trans HB.out hb1)
  have C1 := HC.out.below hb1
  have c2 := fun p => after_cell (C1.at 0 rfl (j := 2) rfl).1 (C1.lt 0 rfl) p
  have c3 := fun p => after_cell (C1.at 0 rfl (j := 3) rfl).1 (C1.lt 0 rfl) p
  have FS := Lib.hid (fun e p => after_of (W := w1) (fun W hW => GS.out e W (below_trans HB1.out hW)) p)
  have FS2 := Lib.hid (fun e p => after_of (W := w1) (fun W hW => GS2.out e W (below_trans HB1.out hW)) p)
  have FT := Lib.hid (fun e p => after_eq' (W := w1) (fun W hW => GT.out e W (below_trans HB1.out hW)) p)
  have FN := Lib.hid (fun p => after_eq (W := w1) (fun W hW => GN.out W (below_trans HB1.out hW)) p)
  clear C1 hb1 GR GS GS2 GT GN HC HB
  cases r1 with
  | false =>
    refine wp_region_after (by kernel_rfl) (by kernel_rfl) ?_
    repeat (go_big_quiet_step (fail))
    refine wpQuiet_nil ?_
    intro _ hw
    obtain ⟨p, rfl⟩ := hw
    have HP := Lib.hid p.is
    generalize p.to = wp at *
    go_wp2
    go_ret
    exact ⟨rfl, below_trans HB1.out HP.out⟩
  | true =>
    replace FS := Lib.hid (FS.out rfl)
    replace FS2 := Lib.hid (FS2.out rfl)
    replace FT := Lib.hid (FT.out rfl)
    cases r2 with
    | true =>
      refine wp_region_after (by kernel_rfl) (by kernel_rfl) ?_
      repeat (go_big_quiet_step (first | with_reducible exact FS.out _))
      refine wpQuiet_nil ?_
      intro _ hw
      obtain ⟨p, rfl⟩ := hw
      have HP := Lib.hid p.is
      generalize p.to = wp at *
      go_wp2
      go_ret
      exact ⟨rfl, below_trans HB1.out HP.out⟩
    | false =>
      cases r3 with
      | true =>
        refine wp_region_after (by kernel_rfl) (by kernel_rfl) ?_
        repeat (go_big_quiet_step (first | with_reducible exact FS.out _ | with_reducible exact FS2.out _))
        refine wpQuiet_nil ?_
        intro _ hw
        obtain ⟨p, rfl⟩ := hw
        have HP := Lib.hid p.is
        generalize p.to = wp at *
        go_wp2
        go_ret
        exact ⟨rfl, below_trans HB1.out HP.out⟩
      | false =>
        refine wp_region_after (by kernel_rfl) (by kernel_rfl) ?_
        repeat (go_big_quiet_step (first | with_reducible exact FS.out _ | with_reducible exact FS2.out _ | with_reducible exact FT.out _ | with_reducible exact FN.out _))
        refine wpQuiet_nil ?_
        intro _ hw
        obtain ⟨p, rfl⟩ := hw
        have HP := Lib.hid p.is
        generalize p.to = wp at *
        go_wp2
        go_ret
        exact ⟨by simp; exact beq_dec t n, below_trans HB1.out HP.out⟩

theorem needR_z {z : Int} (hz : z ≤ 9223372036854775807) (e : 0 ≤ z) (W : World) : Calls Try.prog 35 #[.int .i64 z] W fun e w' => e = .returned (.int .i64 (need z.toNat : Nat)) ∧ w' = W := by
  have := needR_any z.toNat (by omega) W
  rw [show ((z.toNat : Nat) : Int) = z from Int.toNat_of_nonneg e] at this
  exact this

open Classical in
theorem RightR_any (g : Nat) (hg : g < 18446744073709551616) (s z : Int) (hz : z ≤ 9223372036854775807) (a : Option Addr) (c len : Nat) (L : List SpI) (w : World) (h : SpansAt w a L) (hl : L.length = len) :
    Calls Try.prog 14 #[.agg #[.int .u64 (g : Int), .int .i64 s, .int .i64 z, .slice a len c]] w fun e w' => e = .returned (.bool (decide (HdGood g s z L))) ∧ Below w.heap.size w w' := by
  have hS : ∀ W, Below w.heap.size w W → SpansAt W a L := fun W hW => SpansAt.below h hW
  rcases hd_cases g hg s z L with ⟨hno, hc⟩ | ⟨h1, h2, h3, hno, hb⟩ | ⟨h1, h2, h3, N, n, rfl, hf, hc, hno⟩ | ⟨h1, h2, h3, N, n, rfl, hf, hc, hiff⟩
  · rw [decide_eq_false hno]
    rw [hl] at hc
    exact rightR_early g s z a c len w (by rcases hc with h | h | h; exact .inl h; exact .inr (.inl h); exact .inr (.inr (.inl h)))
  · rw [decide_eq_false hno]
    by_cases hz0 : z < 0
    · exact rightR_early g s z a c len w (.inr (.inr (.inr ⟨h1, h2, by omega, hz0⟩)))
    · exact rightR_late g s z a c len w h1 h2 (by omega) (by omega) false false false 0 (need z.toNat : Nat) (fun W hW => rright_bad L a c len s W (hS W hW) hl (by omega) hb) (fun e => by cases e) (fun e => by cases e) (fun e => by cases e) (fun W _ => needR_z hz (by omega) W)
  · rw [decide_eq_false hno]
    by_cases hz0 : z < 0
    · exact rightR_early g n z a c len w (.inr (.inr (.inr ⟨h1, h2, by omega, hz0⟩)))
    · exact rightR_late g n z a c len w h1 h2 (by omega) (by omega) false false false 0 (need z.toNat : Nat) (fun W hW => (rright_good L N n a c len W (hS W hW) hl (by omega) hf).mono fun e w' hy => no_of hy hc) (fun e => by cases e) (fun e => by cases e) (fun e => by cases e) (fun W _ => needR_z hz (by omega) W)
  · by_cases hz0 : z < 0
    · rw [decide_eq_false (fun hgd => by have := (hiff.1 hgd).1.2; omega)]
      exact rightR_early g n z a c len w (.inr (.inr (.inr ⟨h1, h2, by omega, hz0⟩)))
    · have hN : N.length = len := by rw [← hl, hf.eq, castS_length]
      have hm : ∀ x ∈ N, x.1 + x.2 ≤ 8192 := fun x hx => Nat.le_trans (hf.fit x hx) hf.hi
      have hS2 : ∀ W, Below w.heap.size w W → SpansAt W a (castS N) := fun W hW => by rw [← hf.eq]; exact hS W hW
      have e : (((true && !memB N 0) && !memB N 1) && decide (((total N : Nat) : Int) = ((need z.toNat : Nat) : Int))) = decide (HdGood g n z L) := by
        rw [Bool.eq_iff_iff, decide_eq_true_eq, hiff]
        simp only [Bool.true_and, Bool.and_eq_true, Bool.not_eq_true', decide_eq_true_eq, Int.ofNat_inj]
        constructor
        · rintro ⟨⟨a, b⟩, d⟩
          exact ⟨⟨⟨a, b⟩, by omega⟩, d⟩
        · rintro ⟨⟨⟨a, b⟩, _⟩, d⟩
          exact ⟨⟨a, b⟩, d⟩
      have H0 := fun W hW => rhas_any N a c len 0 (by omega) W (hS2 W hW) hN (by omega)
      have H1 := fun W hW => rhas_any N a c len 1 (by omega) W (hS2 W hW) hN (by omega)
      rw [show hasI N 0 = memB N 0 from hasI_nat N 0] at H0
      rw [show hasI N 1 = memB N 1 from hasI_nat N 1] at H1
      rw [← e]
      exact rightR_late g n z a c len w h1 h2 (by omega) (by omega) true (memB N 0) (memB N 1) (total N : Nat) (need z.toNat : Nat) (fun W hW => (rright_good L N n a c len W (hS W hW) hl (by omega) hf).mono fun e w' hy => yes_of hy hc)
        (fun _ W hW => H0 W hW) (fun _ W hW => H1 W hW) (fun _ W hW => rtotal_any N a c len W (hS2 W hW) hN (by omega) (fun x hx => by have := hm x hx; omega)) (fun W _ => needR_z hz (by omega) W)

end Go.Proofs.Ytnknojkihjpjkaa
