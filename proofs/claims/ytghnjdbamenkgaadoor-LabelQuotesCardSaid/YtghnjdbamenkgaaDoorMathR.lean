/-
  Plain facts: what the document's own cutting of UTF-8 (byte by byte, as the reference writes it) says of a list of bytes is what 'dec' says. No program is named here. Conditions: none.
-/
import Derived.Test.YtghnjdbamenkgaaDoorMathL
namespace Go.Rc1

/-- Is byte i one that goes on? -/
def mB (l : List UInt8) (i : Nat) : Bool := decide (i < l.length ∧ 128 ≤ bt l i ∧ bt l i ≤ 191)
/-- The reference's answer: a number (below 0: a wrong byte) and how many bytes. -/
def rr (l : List UInt8) : Int × Int := (if wr l then -1 else ((dec l).1 : Int), ((dec l).2 : Int))

theorem mB_true {l : List UInt8} {i : Nat} (h : mB l i = true) : i < l.length ∧ 128 ≤ bt l i ∧ bt l i ≤ 191 := of_decide_eq_true h
theorem mB_false {l : List UInt8} {i : Nat} (h : mB l i = false) : ¬ (i < l.length ∧ 128 ≤ bt l i ∧ bt l i ≤ 191) := of_decide_eq_false h

theorem rr_wrong {l : List UInt8} (e : dec l = (65533, 1)) : rr l = (-1, 1) := by
  simp [rr, wr, e]

theorem rr_ok {l : List UInt8} {n k : Nat} (e : dec l = (n, k)) (h : n ≠ 65533 ∨ k ≠ 1) : rr l = ((n : Int), (k : Int)) := by
  have : wr l = false := by
    unfold wr; rw [e, decide_eq_false]
    intro h'; simp only [Prod.mk.injEq] at h'; omega
  simp [rr, this, e]

theorem rr1 {l : List UInt8} (h : bt l 0 < 128) : rr l = ((bt l 0 : Int), 1) := rr_ok (dec_low l h) (by omega)

theorem rr2 {l : List UInt8} (h : 194 ≤ bt l 0 ∧ bt l 0 ≤ 223) (h1 : mB l 1 = true) : rr l = (((bt l 0 : Int) - 192) * 64 + bt l 1 - 128, 2) := by
  have m1 := mB_true h1
  have q : Q2 l.length (bt l 0) (bt l 1) := by unfold Q2; omega
  have := rr_ok (l := l) (decN2 q) (by omega)
  rw [this]; congr 1; omega

theorem rr3 {l : List UInt8} (h : 224 ≤ bt l 0 ∧ bt l 0 ≤ 239) (h1 : mB l 1 = true) (h2 : mB l 2 = true) (n : Int) (hn : n = ((bt l 0 : Int) - 224) * 4096 + ((bt l 1 : Int) - 128) * 64 + bt l 2 - 128) (g : 2048 ≤ n ∧ ¬ (55296 ≤ n ∧ n ≤ 57343)) : rr l = (n, 3) := by
  have m1 := mB_true h1; have m2 := mB_true h2
  have q : Q3 l.length (bt l 0) (bt l 1) (bt l 2) := by unfold Q3; omega
  have := rr_ok (l := l) (decN3 q) (by omega)
  rw [this]; congr 1; omega

theorem rr4 {l : List UInt8} (h : 240 ≤ bt l 0 ∧ bt l 0 ≤ 244) (h1 : mB l 1 = true) (h2 : mB l 2 = true) (h3 : mB l 3 = true) (n : Int) (hn : n = ((bt l 0 : Int) - 240) * 262144 + ((bt l 1 : Int) - 128) * 4096 + ((bt l 2 : Int) - 128) * 64 + bt l 3 - 128) (g : 65536 ≤ n ∧ n ≤ 1114111) : rr l = (n, 4) := by
  have m1 := mB_true h1; have m2 := mB_true h2; have m3 := mB_true h3
  have q : Q4 l.length (bt l 0) (bt l 1) (bt l 2) (bt l 3) := by unfold Q4; omega
  have := rr_ok (l := l) (decN4 q) (by omega)
  rw [this]; congr 1; omega

/-- None of these. -/
theorem rr0 {l : List UInt8} (h0 : 128 ≤ bt l 0) (h2 : 194 ≤ bt l 0 ∧ bt l 0 ≤ 223 → mB l 1 = false)
    (h3 : 224 ≤ bt l 0 ∧ bt l 0 ≤ 239 → mB l 1 = false ∨ mB l 2 = false ∨ ((bt l 0 : Int) - 224) * 4096 + ((bt l 1 : Int) - 128) * 64 + bt l 2 - 128 < 2048 ∨ (55296 ≤ ((bt l 0 : Int) - 224) * 4096 + ((bt l 1 : Int) - 128) * 64 + bt l 2 - 128 ∧ ((bt l 0 : Int) - 224) * 4096 + ((bt l 1 : Int) - 128) * 64 + bt l 2 - 128 ≤ 57343))
    (h4 : 240 ≤ bt l 0 ∧ bt l 0 ≤ 244 → mB l 1 = false ∨ mB l 2 = false ∨ mB l 3 = false ∨ ((bt l 0 : Int) - 240) * 262144 + ((bt l 1 : Int) - 128) * 4096 + ((bt l 2 : Int) - 128) * 64 + bt l 3 - 128 < 65536 ∨ 1114111 < ((bt l 0 : Int) - 240) * 262144 + ((bt l 1 : Int) - 128) * 4096 + ((bt l 2 : Int) - 128) * 64 + bt l 3 - 128) : rr l = (-1, 1) := by
  have b0 := bt_lt l 0; have b1 := bt_lt l 1; have b2 := bt_lt l 2; have b3 := bt_lt l 3
  refine rr_wrong (decN0 h0 (fun q => ?_) (fun q => ?_) (fun q => ?_))
  · unfold Q2 at q
    have := mB_false (h2 (by omega)); omega
  · unfold Q3 at q
    rcases h3 (by omega) with h | h | h | h
    · have := mB_false h; omega
    · have := mB_false h; omega
    · omega
    · omega
  · unfold Q4 at q
    rcases h4 (by omega) with h | h | h | h | h
    · have := mB_false h; omega
    · have := mB_false h; omega
    · have := mB_false h; omega
    · omega
    · omega

end Go.Rc1
