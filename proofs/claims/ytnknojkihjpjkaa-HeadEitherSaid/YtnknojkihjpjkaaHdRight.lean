/-
  Whether a head is right: the program's word. Conditions: the numbers and the row are such as a head's fields may hold.
-/
import Derived.Test.YtnknojkihjpjkaaHdRightA
namespace Go.Rc6
open Go.Rc5

theorem bad_not {L : List SpI} {s : Int} {N : List Sp} {n : Nat} (hb : Bad L s) (hs : s = (n : Int)) (hf : Fits L N n) : False := by
  have h1 := hf.lo
  have h2 := hf.hi
  rcases hb with h | h | ⟨x, hx, hi⟩
  · omega
  · omega
  · rw [hf.eq] at hx
    simp only [castS, List.mem_map] at hx
    obtain ⟨t, ht, rfl⟩ := hx
    have h3 := hf.some t ht
    have h4 := hf.fit t ht
    have := (insB_iff ((t.1 : Int), (t.2 : Int)) s).2 ⟨by show 1 ≤ (t.2 : Int); omega, by show 0 ≤ (t.1 : Int); omega, by show (t.1 : Int) < s; omega, by show (t.2 : Int) ≤ s - t.1; omega⟩
    rw [hi] at this
    cases this

/-- The ways a head can be wrong, or right. -/
theorem hd_cases (g : Nat) (hg : g < 18446744073709551616) (s z : Int) (L : List SpI) :
    (¬ HdGood g s z L ∧ (s < 2 ∨ (2 ≤ s ∧ 8192 < s) ∨ (2 ≤ s ∧ s ≤ 8192 ∧ 8 < L.length))) ∨
    (2 ≤ s ∧ s ≤ 8192 ∧ L.length ≤ 8 ∧ ¬ HdGood g s z L ∧ Bad L s) ∨
    (2 ≤ s ∧ s ≤ 8192 ∧ L.length ≤ 8 ∧ ∃ N n, s = ((n : Nat) : Int) ∧ Fits L N n ∧ ¬ Ch 0 N ∧ ¬ HdGood g s z L) ∨
    (2 ≤ s ∧ s ≤ 8192 ∧ L.length ≤ 8 ∧ ∃ N n, s = ((n : Nat) : Int) ∧ Fits L N n ∧ Ch 0 N ∧ (HdGood g s z L ↔ (((memB N 0 = false ∧ memB N 1 = false) ∧ 0 ≤ z) ∧ total N = need z.toNat))) := by
  by_cases h1 : 2 ≤ s
  · by_cases h2 : s ≤ 8192
    · by_cases h3 : L.length ≤ 8
      · rcases bad_or_fits L s with hb | ⟨N, n, hs, hf⟩
        · refine .inr (.inl ⟨h1, h2, h3, fun hgd => ?_, hb⟩)
          obtain ⟨N, n, hs, hf, _⟩ := good_fits hgd
          exact bad_not hb hs hf
        · by_cases hc : Ch 0 N
          · refine .inr (.inr (.inr ⟨h1, h2, h3, N, n, hs, hf, hc, fun hgd => ?_, ?_⟩))
            · obtain ⟨N', n', hs', hf', _, m0, m1, z0, t, _⟩ := good_fits hgd
              obtain rfl := fits_same hf hf'
              exact ⟨⟨⟨m0, m1⟩, z0⟩, t⟩
            · rintro ⟨⟨⟨m0, m1⟩, z0⟩, t⟩
              exact good_of hg hs hf hc m0 m1 z0 t h1 h3
          · refine .inr (.inr (.inl ⟨h1, h2, h3, N, n, hs, hf, hc, fun hgd => ?_⟩))
            obtain ⟨N', n', _, hf', hc', _⟩ := good_fits hgd
            obtain rfl := fits_same hf hf'
            exact hc hc'
      · refine .inl ⟨fun hgd => ?_, .inr (.inr ⟨h1, h2, by omega⟩)⟩
        obtain ⟨_, _, _, _, _, _, _, _, _, _, _, h8⟩ := good_fits hgd
        omega
    · refine .inl ⟨fun hgd => ?_, .inr (.inl ⟨h1, by omega⟩)⟩
      obtain ⟨_, _, _, _, _, _, _, _, _, _, h8, _⟩ := good_fits hgd
      omega
  · refine .inl ⟨fun hgd => ?_, .inl (by omega)⟩
    obtain ⟨_, _, _, _, _, _, _, _, _, h8, _⟩ := good_fits hgd
    omega

end Go.Rc6
namespace Go.Proofs.Ytnknojkihjpjkaa
open Go.RowKit Go.Rc5 Go.Rc6

theorem need_z {z : Int} (hz : z ≤ 9223372036854775807) (e : 0 ≤ z) (W : World) : Calls Try.prog 31 #[.int .i64 z] W fun e w' => e = .returned (.int .i64 (need z.toNat : Nat)) ∧ w' = W := by
  have := need_any z.toNat (by omega) W
  rw [show ((z.toNat : Nat) : Int) = z from Int.toNat_of_nonneg e] at this
  exact this

theorem yes_of {p : Prop} {w : World} {e : Ending} {w' : World} (h : YesIf p w e w') (hp : p) : e = .returned (.bool true) ∧ Below w.heap.size w w' := by
  obtain ⟨f, he, hf, hb⟩ := h
  rw [hf.2 hp] at he
  exact ⟨he, hb⟩

theorem no_of {p : Prop} {w : World} {e : Ending} {w' : World} (h : YesIf p w e w') (hp : ¬ p) : e = .returned (.bool false) ∧ Below w.heap.size w w' := by
  obtain ⟨f, he, hf, hb⟩ := h
  cases f with
  | true => exact absurd (hf.1 rfl) hp
  | false => exact ⟨he, hb⟩

open Classical in
theorem Right_any (g : Nat) (hg : g < 18446744073709551616) (s z : Int) (hz : z ≤ 9223372036854775807) (a : Option Addr) (c len : Nat) (L : List SpI) (w : World) (h : SpansAt w a L) (hl : L.length = len) (hin : ∀ x ∈ L, In64 x.1) :
    Calls Try.prog 13 #[.agg #[.int .u64 (g : Int), .int .i64 s, .int .i64 z, .slice a len c]] w fun e w' => e = .returned (.bool (decide (HdGood g s z L))) ∧ Below w.heap.size w w' := by
  have hS : ∀ W, Below w.heap.size w W → SpansAt W a L := fun W hW => SpansAt.below h hW
  rcases hd_cases g hg s z L with ⟨hno, hc⟩ | ⟨h1, h2, h3, hno, hb⟩ | ⟨h1, h2, h3, N, n, rfl, hf, hc, hno⟩ | ⟨h1, h2, h3, N, n, rfl, hf, hc, hiff⟩
  · rw [decide_eq_false hno]
    rw [hl] at hc
    exact right_early g s z a c len w hc
  · rw [decide_eq_false hno]
    exact right_late g s z a c len w h1 h2 (by omega) false false (decide (0 ≤ z)) 0 (need z.toNat : Nat) (fun W hW => pright_bad L a c len s W (hS W hW) hl (by omega) hb hin) (fun e => by cases e) rfl (fun e => by cases e) (fun e W _ => need_z hz (of_decide_eq_true e) W)
  · rw [decide_eq_false hno]
    exact right_late g n z a c len w h1 h2 (by omega) false false (decide (0 ≤ z)) 0 (need z.toNat : Nat) (fun W hW => (pright_good L N n a c len W (hS W hW) hl (by omega) hf).mono fun e w' hy => no_of hy hc) (fun e => by cases e) rfl (fun e => by cases e) (fun e W _ => need_z hz (of_decide_eq_true e) W)
  · have hN : N.length = len := by rw [← hl, hf.eq, castS_length]
    have hm : ∀ x ∈ N, x.1 + x.2 ≤ 8192 := fun x hx => Nat.le_trans (hf.fit x hx) hf.hi
    have hS2 : ∀ W, Below w.heap.size w W → SpansAt W a (castS N) := fun W hW => by rw [← hf.eq]; exact hS W hW
    have e : (((true && !(memB N 0 || memB N 1)) && decide (0 ≤ z)) && decide (((total N : Nat) : Int) = ((need z.toNat : Nat) : Int))) = decide (HdGood g n z L) := by
      rw [Bool.eq_iff_iff, decide_eq_true_eq, hiff]
      simp only [Bool.true_and, Bool.and_eq_true, Bool.not_eq_true', Bool.or_eq_false_iff, decide_eq_true_eq, Int.ofNat_inj]
    rw [← e]
    exact right_late g n z a c len w h1 h2 (by omega) true (memB N 0 || memB N 1) (decide (0 ≤ z)) (total N : Nat) (need z.toNat : Nat) (fun W hW => (pright_good L N n a c len W (hS W hW) hl (by omega) hf).mono fun e w' hy => yes_of hy hc)
      (fun _ W hW => slotted_any N a c len W (hS2 W hW) hN (by omega) hm) rfl (fun _ W hW => ptotal N a c len W (hS2 W hW) hN (by omega) (fun x hx => by have := hm x hx; omega)) (fun e W _ => need_z hz (of_decide_eq_true e) W)

end Go.Proofs.Ytnknojkihjpjkaa
