/-
  What 'small' of the statements answers: whether acts can be gone through. Conditions: the acts lie in memory as DvIn says.
-/
import Derived.Test.YtchbmchgdhmmmaaDvIn
namespace Go.Rc4

def small (len : Nat) (F : Nat → AR) : Bool := decide (len ≤ 60) && (List.range len).all fun i => decide ((F i).kn ≤ 100)

theorem small_len {len : Nat} {F : Nat → AR} (h : small len F = true) : len ≤ 60 := by
  simp only [small, Bool.and_eq_true, decide_eq_true_eq] at h
  exact h.1

theorem IsActs.later {w w' : World} {a : Option Addr} {len : Nat} {F : Nat → AR} (h : IsActs w a len F) (hk : ∀ x v, w.cell? x = some v → w'.cell? x = some v) : IsActs w' a len F := by
  intro i hi
  obtain ⟨x, hx, c⟩ := h i hi
  exact ⟨x, hx, ⟨hk _ _ c.c0, hk _ _ c.c1, hk _ _ c.c2, hk _ _ c.c3, fun j hj => by obtain ⟨y, hy, e⟩ := c.keep j hj; exact ⟨y, hy, hk _ _ e⟩, c.len, c.i0, c.i1, c.i2⟩⟩

end Go.Rc4
namespace Go.Proofs.Ytchbmchgdhmmmaa
open Go.RowKit Go.Rc4

theorem IsActs.below {w w' : World} {a : Option Addr} {len : Nat} {F : Nat → AR} (h : IsActs w a len F) (hb : Below w.heap.size w w') : IsActs w' a len F :=
  h.later fun _ _ hc => (hb.cell (row_block hc)).trans hc

set_option maxHeartbeats 1000000 in
theorem small_any (a : Option Addr) (len cap : Nat) (F : Nat → AR) (w : World) (h : IsActs w a len F) :
    Calls Try.prog 9 #[.slice a len cap] w fun e w' => e = .returned (.bool (small len F)) ∧ w = w' := by
  by_cases hl : len ≤ 60
  · have hI : ¬ (60 : Int) < len := by omega
    have H := Lib.hid h
    have HL := Lib.hid hl
    clear h
    go_enter Try.func9, Try.ntmps9
    go_wp2
    go_loopw [3] (fun i wr => ∃ k : Nat, i = .int .i64 k ∧ k ≤ len ∧ (∀ j, j < k → (F j).kn ≤ 100) ∧ w = wr) (fun i _ => (len - intOf i).toNat)
    case atStart => exact ⟨0, rfl, Nat.zero_le _, fun j hj => absurd hj (Nat.not_lt_zero _), rfl⟩
    case round =>
      obtain ⟨k, rfl, hk, hall, rfl⟩ := hrel
      have HA := Lib.hid hall
      by_cases hlt : k < len
      · have hltI : (k : Int) < len := by omega
        obtain ⟨x, rfl, c⟩ := H.out k hlt
        have c3 := c.c3
        clear c hall
        by_cases hkn : (F k).kn ≤ 100
        · have hknI : ¬ (100 : Int) < (F k).kn := by omega
          go_wp2
          go_roundw
          case rel =>
            refine ⟨k + 1, by go_num, by omega, fun j hj => ?_, trivial⟩
            by_cases e : j = k
            · subst e; exact hkn
            · exact HA.out j (by omega)
          case measure => simp [intOf]; omega
        · have hknI : (100 : Int) < (F k).kn := by omega
          go_wp2
          go_ret
          have e : small len F = false := by
            rw [Bool.eq_false_iff]
            intro e
            simp only [small, Bool.and_eq_true, decide_eq_true_eq, List.all_eq_true, List.mem_range] at e
            exact hkn (e.2 k hlt)
          exact ⟨by rw [e]; rfl, rfl⟩
      · have hltI : ¬ (k : Int) < len := by omega
        obtain rfl : k = len := by omega
        go_wp2
        go_ret
        have e : small k F = true := by
          simp only [small, Bool.and_eq_true, decide_eq_true_eq, List.all_eq_true, List.mem_range]
          exact ⟨HL.out, HA.out⟩
        exact ⟨by rw [e]; rfl, rfl⟩
  · have hI : (60 : Int) < len := by omega
    have e : small len F = false := by
      unfold small
      rw [decide_eq_false hl]
      rfl
    rw [e]
    clear h
    go_enter Try.func9, Try.ntmps9
    go_wp2
    go_ret
    exact ⟨rfl, rfl⟩

end Go.Proofs.Ytchbmchgdhmmmaa
