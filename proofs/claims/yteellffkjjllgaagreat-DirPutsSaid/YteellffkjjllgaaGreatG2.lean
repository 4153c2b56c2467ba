/-
  Plain facts on numbers in base 16, as lists of bytes. No program is named here. Conditions: none.
  Plain facts on quoted words, over lists of bytes: what a rune, a wrong byte and a text are quoted as. No program is named here. Conditions: none.
  Plain facts on counting the runes of a list of bytes, on its first ones, and on names. No program is named here. Conditions: none.
  Plain facts behind the statements on runes: the first runes are a beginning of the text, what is behind them the rest; how they are counted; that they are valid where all is. No program is named here. Conditions: none.
  Plain facts: what the document's own cutting of UTF-8 (byte by byte, as the reference writes it) says of a list of bytes is what 'dec' says. No program is named here. Conditions: none.
  Plain facts on names: that all runes of a text may stand in a name says the same as that it is valid and all its bytes may. No program is named here. Conditions: none.
  What a call leaves as it was, rows of the call's own, and several things in memory that share nothing, of which one at a time is changed. Conditions: as each theorem states them.
  Several things in memory that share nothing, in a world that but for some blocks is as it was: one at a time is changed; several may be held as one. Conditions: as each theorem states them.
-/
import Derived.Test.YteellffkjjllgaaGreatG1
import Derived.Test.YteellffkjjllgaaGreatChecked
import Derived.Below
import Derived.Lib.Hide
import Derived.WalkSpells
import Derived.WalkKit
import Derived.ProofKit
import Derived.Laws.AppendOwn
import Derived.Laws.Rows
import Derived.Lib.Builder
import Derived.OwnWalk
namespace Go.Rc1

def dgs : List UInt8 := [48, 49, 50, 51, 52, 53, 54, 55, 56, 57, 97, 98, 99, 100, 101, 102]
/-- The digit of a number below 16. -/
def dg (n : Nat) : UInt8 := dgs.getD n 0

def hexF : Nat → Nat → List UInt8
  | 0, _ => []
  | f + 1, n => if n < 16 then [dg n] else hexF f (n / 16) ++ [dg (n % 16)]
def hexL (n : Nat) : List UInt8 := hexF (n + 1) n

theorem hexF_fuel : ∀ (f g n : Nat), n < f → n < g → hexF f n = hexF g n
  | 0, _, _, h, _ => by omega
  | _ + 1, 0, _, _, h => by omega
  | f + 1, g + 1, n, hf, hg => by
    unfold hexF
    split
    · rfl
    · rw [hexF_fuel f g (n / 16) (by omega) (by omega)]

theorem hexL_low (n : Nat) (h : n < 16) : hexL n = [dg n] := by simp [hexL, hexF, h]

theorem hexL_high (n : Nat) (h : 16 ≤ n) : hexL n = hexL (n / 16) ++ [dg (n % 16)] := by
  conv => lhs; unfold hexL hexF
  rw [if_neg (by omega), hexF_fuel n (n / 16 + 1) (n / 16) (by omega) (by omega)]
  rfl

theorem hexL_ne (n : Nat) : hexL n ≠ [] := by
  by_cases h : n < 16
  · rw [hexL_low n h]; simp
  · rw [hexL_high n (by omega)]; simp

/-- How long it is, by powers of 16. -/
theorem hexL_len : ∀ (k n : Nat), n < 16 ^ (k + 1) → (hexL n).length ≤ k + 1
  | 0, n, h => by rw [hexL_low n (by simpa using h)]; simp
  | k + 1, n, h => by
    by_cases h16 : n < 16
    · rw [hexL_low n h16]; simp
    · rw [hexL_high n (by omega), List.length_append]
      have := hexL_len k (n / 16) (by rw [Nat.pow_succ] at h; exact Nat.div_lt_of_lt_mul (by omega))
      simp; omega

end Go.Rc1

namespace Go.Rc1

/-- What a rune is quoted as. -/
def qr (r : Nat) : List UInt8 := if r = 92 then [92, 92] else if 33 ≤ r ∧ r ≤ 126 then [UInt8.ofNat r] else [92, 123] ++ hexL r ++ [125]
/-- What a list's first rune, or wrong byte, is quoted as. -/
def qc (c : List UInt8) : List UInt8 := if wr c then [92, 33] ++ hexL (bt c 0) else qr (dec c).1
def quoteF (l : List UInt8) : List UInt8 := (cut l).flatMap qc
def quote (l : List UInt8) : List UInt8 := if l = [] then [92, 95] else quoteF l

theorem wr_take (l : List UInt8) (h : l ≠ []) : wr (l.take (dec l).2) = wr l := by
  unfold wr; rw [dec_take l _ h (Nat.le_refl _)]

theorem qc_take (l : List UInt8) (h : l ≠ []) : qc (l.take (dec l).2) = qc l := by
  have hp := dec_pos l h
  unfold qc; rw [wr_take l h, dec_take l _ h (Nat.le_refl _), bt_take l _ 0 (by omega)]

theorem quoteF_nil : quoteF [] = [] := rfl
theorem quoteF_cons (l : List UInt8) (h : l ≠ []) : quoteF l = qc l ++ quoteF (l.drop (dec l).2) := by
  unfold quoteF
  rw [cut_cons l h, List.flatMap_cons, qc_take l h]

theorem hexL_len8 (n : Nat) (h : n < 16777216) : (hexL n).length ≤ 6 := hexL_len 5 n (by simpa using h)

theorem qr_len (r : Nat) (h : r ≤ 1114111) : (qr r).length ≤ 9 := by
  have := hexL_len8 r (by omega)
  unfold qr; repeat' split
  all_goals simp; try omega

theorem qc_len (l : List UInt8) (h : l ≠ []) : (qc l).length ≤ 9 := by
  have h1 := (dec_facts l h).2.2.2.1
  have h2 := hexL_len8 (bt l 0) (by have := bt_lt l 0; omega)
  unfold qc; split
  · simp; omega
  · exact qr_len _ h1

theorem quoteF_len : ∀ l, (quoteF l).length ≤ 9 * l.length := by
  apply cut_ind
  · simp [quoteF_nil]
  · intro l h ih
    have := qc_len l h; have := dec_pos l h; have := dec_le l h
    rw [quoteF_cons l h, List.length_append]
    simp at ih; omega

theorem isPrefix3 (l : List UInt8) : ([239, 191, 189] : List UInt8).isPrefixOf l = decide (2 < l.length ∧ bt l 0 = 239 ∧ bt l 1 = 191 ∧ bt l 2 = 189) := by
  have e : ∀ (a : UInt8) (n : Nat) (h : n < 256), (UInt8.ofNat n == a) = decide (a.toNat = n) := by
    intro a n h
    rw [Bool.eq_iff_iff]
    simp only [beq_iff_eq, decide_eq_true_eq]
    constructor
    · rintro rfl; simp [Nat.mod_eq_of_lt h]
    · intro h'; rw [← h']; simp
  match l with
  | [] => rfl
  | [a] => simp [List.isPrefixOf]
  | [a, b] => simp [List.isPrefixOf]
  | a :: b :: c :: t =>
    have e0 := e a 239 (by omega); have e1 := e b 191 (by omega); have e2 := e c 189 (by omega)
    have e0' : ((239 : UInt8) == a) = decide (a.toNat = 239) := e0
    have e1' : ((191 : UInt8) == b) = decide (b.toNat = 191) := e1
    have e2' : ((189 : UInt8) == c) = decide (c.toNat = 189) := e2
    simp [List.isPrefixOf, bt, e0', e1', e2']

/-- How the program tells a wrong byte. -/
theorem wr_eq (l : List UInt8) (_h : l ≠ []) : wr l = (decide ((dec l).1 = 65533) && !([239, 191, 189] : List UInt8).isPrefixOf l) := by
  rw [isPrefix3]
  have b0 := bt_lt l 0; have b1 := bt_lt l 1; have b2 := bt_lt l 2; have b3 := bt_lt l 3
  rw [Bool.eq_iff_iff]
  simp only [wr, decide_eq_true_eq, Bool.and_eq_true, Bool.not_eq_true', decide_eq_false_iff_not]
  rcases dec_cases l with ⟨h, e⟩ | ⟨h, e⟩ | ⟨h, e⟩ | ⟨h, e⟩ | ⟨h0, h2, h3, h4, e⟩
  · rw [e]; simp only [Prod.mk.injEq]; omega
  · rw [e]; simp only [Prod.mk.injEq]; unfold Q2 at h; omega
  · rw [e]; simp only [Prod.mk.injEq]; unfold Q3 at h; omega
  · rw [e]; simp only [Prod.mk.injEq]; unfold Q4 at h; omega
  · rw [e]
    refine ⟨fun _ => ⟨rfl, fun q => h3 ?_⟩, fun _ => rfl⟩
    unfold Q3; omega

/-- A wrong byte is 128 or more. -/
theorem wr_high (l : List UInt8) (h : wr l = true) : 128 ≤ bt l 0 ∧ (dec l).2 = 1 ∧ (dec l).1 = 65533 := by
  have e : dec l = (65533, 1) := by simpa [wr] using h
  refine ⟨?_, by rw [e], by rw [e]⟩
  rcases Nat.lt_or_ge (bt l 0) 128 with h' | h'
  · rw [dec_low l h'] at e
    simp only [Prod.mk.injEq] at e; omega
  · exact h'

end Go.Rc1

namespace Go.Rc1

def count (l : List UInt8) : Nat := (cut l).length
def first (l : List UInt8) (n : Nat) : List UInt8 := ((cut l).take n).flatten

/-- The cutting stands at pos, with m runes behind it. -/
def At (l : List UInt8) (pos m : Nat) : Prop := pos ≤ l.length ∧ m ≤ (cut l).length ∧ m ≤ pos ∧ l.take pos = ((cut l).take m).flatten ∧ cut (l.drop pos) = (cut l).drop m

theorem At.zero (l : List UInt8) : At l 0 0 := ⟨Nat.zero_le _, Nat.zero_le _, Nat.le_refl _, by simp, by simp⟩

theorem At.lt {l : List UInt8} {pos m : Nat} (_h : At l pos m) (hp : pos < l.length) : l.drop pos ≠ [] := by
  intro e
  have := congrArg List.length e
  simp at this; omega

theorem At.next {l : List UInt8} {pos m : Nat} (h : At l pos m) (hp : pos < l.length) : (cut l)[m]? = some ((l.drop pos).take (dec (l.drop pos)).2) ∧ cut (l.drop (pos + (dec (l.drop pos)).2)) = (cut l).drop (m + 1) := by
  have hne := h.lt hp
  have h5 := h.2.2.2.2
  rw [cut_cons _ hne] at h5
  constructor
  · have : ((cut l).drop m)[0]? = some ((l.drop pos).take (dec (l.drop pos)).2) := by rw [← h5]; rfl
    simpa using this
  · have := congrArg List.tail h5
    rw [List.tail_cons, List.tail_drop, List.drop_drop] at this
    exact this

theorem At.step {l : List UInt8} {pos m : Nat} (h : At l pos m) (hp : pos < l.length) : At l (pos + (dec (l.drop pos)).2) (m + 1) := by
  have hne := h.lt hp
  have hn := h.next hp
  have h1 := dec_pos _ hne
  have h2 := dec_le _ hne
  rw [List.length_drop] at h2
  have hm : m < (cut l).length := (List.getElem?_eq_some_iff.1 hn.1).1
  refine ⟨by omega, by omega, by have := h.2.2.1; omega, ?_, hn.2⟩
  rw [List.take_add, h.2.2.2.1, List.take_succ_eq_append_getElem hm, List.flatten_append]
  congr 1
  have := (List.getElem?_eq_some_iff.1 hn.1).2
  rw [this]; simp

theorem At.over {l : List UInt8} {pos m : Nat} (h : At l pos m) (hp : ¬ pos < l.length) : m = (cut l).length := by
  have h5 := h.2.2.2.2
  rw [List.drop_of_length_le (by omega), cut_nil] at h5
  have := congrArg List.length h5
  simp at this
  have := h.2.1
  omega

theorem At.first {l : List UInt8} {pos m : Nat} (h : At l pos m) : l.take pos = first l m := h.2.2.2.1

theorem At.count_lt {l : List UInt8} {pos m : Nat} (h : At l pos m) (hp : pos < l.length) : m < count l := (List.getElem?_eq_some_iff.1 (h.next hp).1).1

theorem first_all (l : List UInt8) (n : Nat) (h : count l ≤ n) : first l n = l := by
  unfold first; rw [List.take_of_length_le h, cut_flatten]

theorem At.all {l : List UInt8} {pos m : Nat} (h : At l pos m) (hp : pos < l.length) (p : List UInt8 → Bool) (hpp : ∀ t, t ≠ [] → p (t.take (dec t).2) = p t) : ((cut l).take (m + 1)).all p = (((cut l).take m).all p && p (l.drop pos)) := by
  have hn := (h.next hp).1
  obtain ⟨hm, e⟩ := List.getElem?_eq_some_iff.1 hn
  rw [List.take_succ_eq_append_getElem hm, List.all_append, e]
  simp [hpp _ (h.lt hp)]

theorem At.bad {l : List UInt8} {pos m : Nat} (h : At l pos m) (hp : pos < l.length) (p : List UInt8 → Bool) (hpp : ∀ t, t ≠ [] → p (t.take (dec t).2) = p t) (hb : p (l.drop pos) = false) : (cut l).all p = false := by
  have hn := (h.next hp).1
  rw [List.all_eq_false]
  refine ⟨_, List.mem_of_getElem? hn, ?_⟩
  rw [hpp _ (h.lt hp), hb]; simp

theorem nwr_take (t : List UInt8) (h : t ≠ []) : (!wr (t.take (dec t).2)) = (!wr t) := by rw [wr_take t h]

/-- A rune that a name may have. -/
def okc (c : List UInt8) : Bool := decide (32 ≤ (dec c).1) && !decide ((dec c).1 = 127) && !wr c
theorem okc_take (t : List UInt8) (h : t ≠ []) : okc (t.take (dec t).2) = okc t := by
  unfold okc; rw [wr_take t h, dec_take t _ h (Nat.le_refl _)]

def right (l : List UInt8) : Bool := decide (1 ≤ count l ∧ count l ≤ 24) && (cut l).all okc && decide (bt l 0 ≠ 32) && decide (bt l (l.length - 1) ≠ 32)

end Go.Rc1

namespace Go.Rc1

theorem first_append (l : List UInt8) (n : Nat) : first l n ++ ((cut l).drop n).flatten = l := by
  unfold first
  rw [← List.flatten_append, List.take_append_drop, cut_flatten]

theorem first_len (l : List UInt8) (n : Nat) : (first l n).length ≤ l.length := by
  have := congrArg List.length (first_append l n)
  rw [List.length_append] at this; omega

theorem first_take (l : List UInt8) (n : Nat) : l.take (first l n).length = first l n := by
  conv => lhs; rw [← first_append l n]
  rw [first_append l n]
  have := List.take_left' (l₁ := first l n) (l₂ := ((cut l).drop n).flatten) rfl
  rwa [first_append l n] at this

theorem first_drop (l : List UInt8) (n : Nat) : l.drop (first l n).length = ((cut l).drop n).flatten := by
  have := List.drop_left' (l₁ := first l n) (l₂ := ((cut l).drop n).flatten) rfl
  rwa [first_append l n] at this

theorem count_first (l : List UInt8) (n : Nat) : count (first l n) = min n (count l) := by
  unfold count first; rw [cut_take, List.length_take]

theorem count_rest (l : List UInt8) (n : Nat) : count (l.drop (first l n).length) = count l - n := by
  rw [first_drop]; unfold count; rw [cut_drop, List.length_drop]

theorem valid_first (l : List UInt8) (n : Nat) (h : valid l = true) : valid (first l n) = true ∧ valid (l.drop (first l n).length) = true := by
  rw [first_drop]
  unfold valid at *
  unfold first
  rw [cut_take, cut_drop]
  rw [List.all_eq_true] at h
  exact ⟨List.all_eq_true.2 fun c hc => h c (List.mem_of_mem_take hc), List.all_eq_true.2 fun c hc => h c (List.mem_of_mem_drop hc)⟩

theorem first_first (l : List UInt8) (a b : Nat) : first (first l a) b = first l (min b a) := by
  conv => lhs; unfold first
  rw [cut_take, List.take_take]
  rfl

end Go.Rc1

namespace Go.Rc1

/-- Is byte i one that goes on? -/
def mB (l : List UInt8) (i : Nat) : Bool := decide (i < l.length ∧ 128 ≤ bt l i ∧ bt l i ≤ 191)
/-- The reference's answer: a number (below 0: a wrong byte) and how many bytes. -/
def rr (l : List UInt8) : Int × Int := (if wr l then -1 else ((dec l).1 : Int), ((dec l).2 : Int))

theorem mB_true {l : List UInt8} {i : Nat} (h : mB l i = true) : i < l.length ∧ 128 ≤ bt l i ∧ bt l i ≤ 191 := of_decide_eq_true h
theorem mB_false {l : List UInt8} {i : Nat} (h : mB l i = false) : ¬ (i < l.length ∧ 128 ≤ bt l i ∧ bt l i ≤ 191) := of_decide_eq_false h

theorem rr_wrong {l : List UInt8} (e : dec l = (65533, 1)) : rr l = (-1, 1) := by
  simp [rr, wr, e]

theorem rr_ok {l : List UInt8} {n k : Nat} (e : dec l = (n, k)) (h : n ≠ 65533 ∨ k ≠ 1) : rr l = ((n : Int), (k : Int)) := by
  have : wr l = false := by
    unfold wr; rw [e, decide_eq_false]
    intro h'; simp only [Prod.mk.injEq] at h'; omega
  simp [rr, this, e]

theorem rr1 {l : List UInt8} (h : bt l 0 < 128) : rr l = ((bt l 0 : Int), 1) := rr_ok (dec_low l h) (by omega)

theorem rr2 {l : List UInt8} (h : 194 ≤ bt l 0 ∧ bt l 0 ≤ 223) (h1 : mB l 1 = true) : rr l = (((bt l 0 : Int) - 192) * 64 + bt l 1 - 128, 2) := by
  have m1 := mB_true h1
  have q : Q2 l.length (bt l 0) (bt l 1) := by unfold Q2; omega
  have := rr_ok (l := l) (decN2 q) (by omega)
  rw [this]; congr 1; omega

theorem rr3 {l : List UInt8} (h : 224 ≤ bt l 0 ∧ bt l 0 ≤ 239) (h1 : mB l 1 = true) (h2 : mB l 2 = true) (n : Int) (hn : n = ((bt l 0 : Int) - 224) * 4096 + ((bt l 1 : Int) - 128) * 64 + bt l 2 - 128) (g : 2048 ≤ n ∧ ¬ (55296 ≤ n ∧ n ≤ 57343)) : rr l = (n, 3) := by
  have m1 := mB_true h1; have m2 := mB_true h2
  have q : Q3 l.length (bt l 0) (bt l 1) (bt l 2) := by unfold Q3; omega
  have := rr_ok (l := l) (decN3 q) (by omega)
  rw [this]; congr 1; omega

theorem rr4 {l : List UInt8} (h : 240 ≤ bt l 0 ∧ bt l 0 ≤ 244) (h1 : mB l 1 = true) (h2 : mB l 2 = true) (h3 : mB l 3 = true) (n : Int) (hn : n = ((bt l 0 : Int) - 240) * 262144 + ((bt l 1 : Int) - 128) * 4096 + ((bt l 2 : Int) - 128) * 64 + bt l 3 - 128) (g : 65536 ≤ n ∧ n ≤ 1114111) : rr l = (n, 4) := by
  have m1 := mB_true h1; have m2 := mB_true h2; have m3 := mB_true h3
  have q : Q4 l.length (bt l 0) (bt l 1) (bt l 2) (bt l 3) := by unfold Q4; omega
  have := rr_ok (l := l) (decN4 q) (by omega)
  rw [this]; congr 1; omega

/-- None of these. -/
theorem rr0 {l : List UInt8} (h0 : 128 ≤ bt l 0) (h2 : 194 ≤ bt l 0 ∧ bt l 0 ≤ 223 → mB l 1 = false)
    (h3 : 224 ≤ bt l 0 ∧ bt l 0 ≤ 239 → mB l 1 = false ∨ mB l 2 = false ∨ ((bt l 0 : Int) - 224) * 4096 + ((bt l 1 : Int) - 128) * 64 + bt l 2 - 128 < 2048 ∨ (55296 ≤ ((bt l 0 : Int) - 224) * 4096 + ((bt l 1 : Int) - 128) * 64 + bt l 2 - 128 ∧ ((bt l 0 : Int) - 224) * 4096 + ((bt l 1 : Int) - 128) * 64 + bt l 2 - 128 ≤ 57343))
    (h4 : 240 ≤ bt l 0 ∧ bt l 0 ≤ 244 → mB l 1 = false ∨ mB l 2 = false ∨ mB l 3 = false ∨ ((bt l 0 : Int) - 240) * 262144 + ((bt l 1 : Int) - 128) * 4096 + ((bt l 2 : Int) - 128) * 64 + bt l 3 - 128 < 65536 ∨ 1114111 < ((bt l 0 : Int) - 240) * 262144 + ((bt l 1 : Int) - 128) * 4096 + ((bt l 2 : Int) - 128) * 64 + bt l 3 - 128) : rr l = (-1, 1) := by
  have b0 := bt_lt l 0; have b1 := bt_lt l 1; have b2 := bt_lt l 2; have b3 := bt_lt l 3
  refine rr_wrong (decN0 h0 (fun q => ?_) (fun q => ?_) (fun q => ?_))
  · unfold Q2 at q
    have := mB_false (h2 (by omega)); omega
  · unfold Q3 at q
    rcases h3 (by omega) with h | h | h | h
    · have := mB_false h; omega
    · have := mB_false h; omega
    · omega
    · omega
  · unfold Q4 at q
    rcases h4 (by omega) with h | h | h | h | h
    · have := mB_false h; omega
    · have := mB_false h; omega
    · have := mB_false h; omega
    · omega
    · omega

end Go.Rc1

namespace Go.Rc1

def okB (b : UInt8) : Bool := decide (32 ≤ b.toNat) && !decide (b.toNat = 127)

theorem bt_get (l : List UInt8) (i : Nat) (h : i < l.length) : bt l i = l[i].toNat := by
  simp [bt, List.getD_eq_getElem?_getD, List.getElem?_eq_getElem h]

/-- All bytes of a rune of several are 128 or more. -/
theorem high_bytes (l : List UInt8) (_hne : l ≠ []) (hw : wr l = false) (h : 128 ≤ bt l 0) : ∀ i, i < (dec l).2 → 128 ≤ bt l i := by
  have hw' : dec l ≠ (65533, 1) := by simpa [wr] using hw
  rcases dec_cases l with ⟨q, e⟩ | ⟨q, e⟩ | ⟨q, e⟩ | ⟨q, e⟩ | ⟨h0, h2, h3, h4, e⟩
  · omega
  · rw [e]; intro i hi; dsimp only at hi; unfold Q2 at q
    obtain rfl | rfl : i = 0 ∨ i = 1 := by omega
    all_goals omega
  · rw [e]; intro i hi; dsimp only at hi; unfold Q3 at q
    obtain rfl | rfl | rfl : i = 0 ∨ i = 1 ∨ i = 2 := by omega
    all_goals omega
  · rw [e]; intro i hi; dsimp only at hi; unfold Q4 at q
    obtain rfl | rfl | rfl | rfl : i = 0 ∨ i = 1 ∨ i = 2 ∨ i = 3 := by omega
    all_goals omega
  · exact absurd e hw'

theorem okc_eq (l : List UInt8) (hne : l ≠ []) : okc l = (!wr l && (l.take (dec l).2).all okB) := by
  cases hw : wr l with
  | true => unfold okc; rw [hw]; simp
  | false =>
    have hle := dec_le l hne
    have hl : 0 < l.length := List.length_pos_iff.2 hne
    by_cases h : bt l 0 < 128
    · have e := dec_low l h
      obtain ⟨a, t, rfl⟩ : ∃ a t, l = a :: t := by
        cases l with
        | nil => exact absurd rfl hne
        | cons a t => exact ⟨a, t, rfl⟩
      have hb : bt (a :: t) 0 = a.toNat := rfl
      unfold okc
      rw [hw, e, hb]
      simp [okB]
    · have hd := dec_high l (by omega)
      have hh := high_bytes l hne hw (by omega)
      have h1 : okc l = true := by
        unfold okc; rw [hw, decide_eq_true (by omega), decide_eq_false (by omega)]; rfl
      have h2 : (l.take (dec l).2).all okB = true := by
        rw [List.all_eq_true]
        intro b hb
        obtain ⟨i, hi, rfl⟩ := List.mem_iff_getElem.1 hb
        simp only [List.length_take] at hi
        have := hh i (by omega)
        rw [bt_get l i (by omega)] at this
        rw [List.getElem_take]
        unfold okB
        rw [decide_eq_true (by omega), decide_eq_false (by omega)]; rfl
      rw [h1, h2]; rfl

theorem all_okc : ∀ l, (cut l).all okc = (valid l && l.all okB) := by
  apply cut_ind
  · rfl
  · intro l h ih
    rw [cut_cons l h, List.all_cons, okc_take l h, ih, okc_eq l h, valid_cons l h]
    conv => rhs; rw [← List.take_append_drop (dec l).2 l, List.all_append]
    rw [List.take_append_drop]
    cases wr l <;> cases (l.take (dec l).2).all okB <;> simp

theorem right_eq (l : List UInt8) : right l = (decide (1 ≤ count l ∧ count l ≤ 24) && (valid l && l.all okB) && decide (bt l 0 ≠ 32) && decide (bt l (l.length - 1) ≠ 32)) := by
  unfold right; rw [all_okc]

theorem count_pos (l : List UInt8) (h : l ≠ []) : 1 ≤ count l := List.length_pos_iff.2 (cut_ne l h)

end Go.Rc1

namespace Go.Proofs.YteellffkjjllgaaGreat
open Go.RowKit

/-- But for the blocks of O all that was there is as it was. -/
structure Moved (O : Nat → Prop) (w w' : World) : Prop where
  os : w'.os = w.os
  tape : w'.tape = w.tape
  output : w'.output = w.output
  size : w.heap.size ≤ w'.heap.size
  block : ∀ k, k < w.heap.size → ¬ O k → w'.heap[k]? = w.heap[k]?

theorem Moved.refl (O : Nat → Prop) (w : World) : Moved O w w := ⟨rfl, rfl, rfl, Nat.le_refl _, fun _ _ _ => rfl⟩

theorem Moved.trans {O O' : Nat → Prop} {u v w : World} (h : Moved O u v) (k : Moved O' v w) (hO : ∀ i, O' i → O i ∨ u.heap.size ≤ i) : Moved O u w :=
  ⟨k.os.trans h.os, k.tape.trans h.tape, k.output.trans h.output, Nat.le_trans h.size k.size, fun i hi hn =>
    (k.block i (Nat.lt_of_lt_of_le hi h.size) (fun ho => (hO i ho).elim hn (fun hz => by omega))).trans (h.block i hi hn)⟩

theorem Moved.of_below {w w' : World} (O : Nat → Prop) (h : Below w.heap.size w w') : Moved O w w' :=
  ⟨h.os, h.tape, h.output, h.size, fun k hk _ => h.block k hk⟩

theorem Moved.below {O : Nat → Prop} {w w' : World} (h : Moved O w w') {B : Nat} (hB : B ≤ w.heap.size) (hO : ∀ k, O k → B ≤ k) : Below B w w' :=
  ⟨h.os, h.tape, h.output, h.size, fun k hk => h.block k (by omega) (fun ho => by have := hO k ho; omega)⟩

theorem Moved.setCell {O : Nat → Prop} {u w : World} (h : Moved O u w) {b : Nat} (hb : O b ∨ u.heap.size ≤ b) (i : Nat) (x : Value) : Moved O u (w.setCell ⟨b, i, none⟩ x) :=
  h.trans (O' := fun k => k = b) ⟨rfl, rfl, rfl, by simp [World.setCell], fun k _ hn => Below.heap_setCell _ _ _ _ hn⟩ (fun i hi => hi ▸ hb)

theorem Moved.setRow {O : Nat → Prop} {u w : World} (h : Moved O u w) {b : Nat} (hb : O b ∨ u.heap.size ≤ b) (cs : Array Value) : Moved O u (w.setRow b cs) :=
  h.trans (O' := fun k => k = b) ⟨rfl, rfl, rfl, by simp [World.setRow], fun k _ hn => setRow_other _ _ _ _ hn⟩ (fun i hi => hi ▸ hb)

theorem Moved.alloc {O : Nat → Prop} {u w : World} (h : Moved O u w) (o : Obj) : Moved O u (w.alloc o) :=
  h.trans (O' := fun _ => False) ⟨rfl, rfl, rfl, by simp, fun k hk _ => Below.heap_alloc _ _ _ hk⟩ (fun _ hi => hi.elim)

theorem Moved.drew {O : Nat → Prop} {u w : World} (h : Moved O u w) : Moved O u w.drew := ⟨h.os, h.tape, h.output, h.size, h.block⟩

theorem Moved.grown {O : Nat → Prop} {u w w' : World} {row : Option Nat} (h : Moved O u w) (hg : w.grownBy w' row) (hr : ∀ k, row = some k → O k ∨ u.heap.size ≤ k) : Moved O u w' :=
  h.trans (O' := fun k => row = some k) ⟨hg.os, hg.tape, hg.output, hg.size, fun k hk hn => hg.block k hk (fun e => hn e.symm)⟩ (fun i hi => hr i hi)

theorem grown_setCell (w : World) (b i : Nat) (u : Value) : w.grownBy (w.setCell ⟨b, i, none⟩ u) (some b) :=
  ⟨rfl, rfl, rfl, by simp [World.setCell], fun _ _ hk => Below.heap_setCell _ _ _ _ (fun e => hk (by rw [e]))⟩

theorem own_put {w : World} {base e z g cap n i : Nat} {xs : List Value} (h : w.ownsRow base e z (.slice (some ⟨g, 0, none⟩) n cap) n xs) (u : Value) :
    (w.setCell ⟨g, i, none⟩ u).ownsRow base e z (.slice (some ⟨g, 0, none⟩) n cap) n (xs.set i u) := by
  obtain ⟨h1, h2⟩ := h
  rcases h2 with ⟨h2, _⟩ | ⟨g', cap', cur, h2, hb, hg, hn, hm, hs, ht⟩
  · cases h2
  · cases h2
    refine ⟨by simp [h1], .inr ⟨g, cap, cur.setIfInBounds i u, rfl, hb, heap_setCell_same w g i cur e u hg, hn, hm, by simp [hs], ?_⟩⟩
    rw [Array.toList_setIfInBounds, List.take_set, ht]

theorem own_block {w : World} {base e z g cap n : Nat} {xs : List Value} (h : w.ownsRow base e z (.slice (some ⟨g, 0, none⟩) n cap) n xs) :
    base ≤ g ∧ n ≤ cap ∧ cap ≤ maxLen ∧ ∃ cur : Array Value, w.heap[g]? = some (.cells cur e (0, 0)) ∧ cur.size = cap * z ∧ cur.toList.take (n * z) = xs := by
  obtain ⟨_, h2⟩ := h
  rcases h2 with ⟨h2, _⟩ | ⟨g', cap', cur, h2, hb, hg, hn, hm, hs, ht⟩
  · cases h2
  · cases h2
    exact ⟨hb, hn, hm, cur, hg, hs, ht⟩

theorem own_cell {w : World} {base e z g cap n : Nat} {xs : List Value} (h : w.ownsRow base e z (.slice (some ⟨g, 0, none⟩) n cap) n xs) {j : Nat} {u : Value} (hu : xs[j]? = some u) :
    w.cell? ⟨g, j, none⟩ = some u ∧ w.frozen? ⟨g, j, none⟩ = false := by
  obtain ⟨_, _, _, cur, hg, _, ht⟩ := own_block h
  refine ⟨?_, Lib.frozen_of_heap hg j⟩
  rw [Lib.cell_of_heap hg]
  rw [← ht, List.getElem?_take] at hu
  split at hu
  · simpa using hu
  · cases hu

theorem own_slice {w : World} {base e z n : Nat} {v : Value} {xs : List Value} (h : w.ownsRow base e z v n xs) : ∃ a cap, v = .slice a n cap := by
  rcases h.2 with ⟨rfl, rfl⟩ | ⟨g, cap, cur, rfl, _⟩
  · exact ⟨none, 0, rfl⟩
  · exact ⟨_, cap, rfl⟩

theorem own_mono {w : World} {base base' e size n : Nat} {v : Value} {xs : List Value} (h : w.ownsRow base e size v n xs) (hb : base' ≤ base) : w.ownsRow base' e size v n xs := by
  refine ⟨h.1, ?_⟩
  rcases h.2 with h2 | ⟨g, cap, cur, hv, hg, r⟩
  · exact .inl h2
  · exact .inr ⟨g, cap, cur, hv, Nat.le_trans hb hg, r⟩

section
variable {P : Program} (w : World)

theorem run_append_own2 (base : Nat) (t ty e : TypeId) (i : TypeInfo) (z : Value) (size bytes : Nat) (ht : P.underlying t = some (.slice e)) (hi : P.info? e = some i) (hz : i.zero = some z)
    (hsize : i.size = size) (hby : i.bytes = bytes) (hzs : z.cells.size = size) (hsz : 0 < size)
    (v : Value) (n : Nat) (xs : List Value) (hown : w.ownsRow base e size v n xs)
    (a : Addr) (m c : Nat) (news : List Value) (hl : news.length = m * size) (hnews : ∀ j u, news[j]? = some u → w.cell? (a.add j) = some u) (h1 : ∀ u ∈ news, u.oneCell' = true)
    (h63 : n + m ≤ maxLen) (hbytes : (n + m) * bytes ≤ 140737488355328) (hbase : base ≤ w.heap.size) :
    ∃ v' w', (Builtin.append_ #[t, t] ty #[v, .slice (some a) m c]).run P w = .ok v' w' ∧ w'.ownsRow base e size v' (n + m) (xs ++ news) ∧ w.grownBy w' v.ownBlock ∧
      ∀ k, v'.ownBlock = some k → v.ownBlock = some k ∨ w.heap.size ≤ k := by
  have hs := hown
  rcases hown.2 with ⟨rfl, rfl⟩ | ⟨g, cap, cur, rfl, hbg, hg, hnc, hcm, hcs, htake⟩
  · have hx : xs = [] := List.eq_nil_of_length_eq_zero (by simpa using hown.1)
    subst hx
    obtain ⟨v', w', hr, h2, h3, _⟩ := run_append_own (P := P) w w.heap.size t ty e i z size bytes ht hi hz hsize hby hzs hsz _ 0 [] (World.ownsRow_nil w _ e size) a m c news hl hnews h1 h63 hbytes (Nat.le_refl _)
    exact ⟨v', w', hr, own_mono h2 hbase, h3, fun k hk => .inr (h2.lt k hk).1⟩
  · obtain ⟨v', w', hr, h2, h3, _⟩ := run_append_own (P := P) w base t ty e i z size bytes ht hi hz hsize hby hzs hsz _ n xs hs a m c news hl hnews h1 h63 hbytes hbase
    refine ⟨v', w', hr, h2, h3, ?_⟩
    subst hsize
    subst hby
    by_cases hroom : n + m ≤ cap
    · have hfit : n * i.size + news.length ≤ cur.size := by rw [hl, hcs, ← Nat.add_mul]; exact Nat.mul_le_mul_right _ hroom
      have hr' := run_append_room (P := P) w t ty e i ht hi g n cap cur hg a m c news hl hnews h1 hroom hfit
      rw [hr] at hr'
      cases hr'
      exact fun k hk => .inl hk
    · have holds : ∀ j u, xs[j]? = some u → w.cell? ((⟨g, 0, none⟩ : Addr).add j) = some u := hs.cells (g := g) rfl
      have hr' := run_append_grow (P := P) w t ty e i z ht hi hz ⟨g, 0, none⟩ n cap xs hs.1 holds a m c news hl hnews (by omega) (by simp only [maxLen] at h63; omega) (growslice_fits (by omega) hbytes)
      rw [hr] at hr'
      cases hr'
      exact fun k hk => .inr (by simp [Value.ownBlock] at hk; omega)

theorem wpList_append_own2 {ops : Array Oper} {rest : List Oper} {o : Oper} {a : Act} {Q : Exit → Act → World → Prop} (hgd : o.guard = none) (s x : Operand) (t : TypeId)
    (ho : o.op = .call { callee := .builtin .append, args := #[s, x], argTypes := #[t, t] })
    (base : Nat) (e : TypeId) (i : TypeInfo) (z : Value) (size bytes : Nat) (ht : P.underlying t = some (.slice e)) (hi : P.info? e = some i) (hz : i.zero = some z)
    (hsize : i.size = size) (hby : i.bytes = bytes) (hzs : z.cells.size = size) (hsz : 0 < size)
    (v : Value) (n : Nat) (xs : List Value) (hs : a.eval s = v) (hown : w.ownsRow base e size v n xs)
    (ad : Addr) (m c : Nat) (news : List Value) (hx : a.eval x = .slice (some ad) m c) (hl : news.length = m * size) (hnews : ∀ j u, news[j]? = some u → w.cell? (ad.add j) = some u) (h1 : ∀ u ∈ news, u.oneCell' = true)
    (h63 : n + m ≤ maxLen) (hbytes : (n + m) * bytes ≤ 140737488355328) (hbase : base ≤ w.heap.size)
    (h : ∀ v' w', w'.ownsRow base e size v' (n + m) (xs ++ news) → w.grownBy w' v.ownBlock → (∀ k, v'.ownBlock = some k → v.ownBlock = some k ∨ w.heap.size ≤ k) → wpList P ops Q rest (a.put o.dst v') w') : wpList P ops Q (o :: rest) a w := by
  obtain ⟨v', w', hr, h2, h3, h4⟩ := run_append_own2 (P := P) w base t o.type e i z size bytes ht hi hz hsize hby hzs hsz v n xs hown ad m c news hl hnews h1 h63 hbytes hbase
  refine wpList_plain hgd fun K hK => ?_
  unfold Oper.wp execOp
  simp only [ho, resolve, invoke, builtin, Sem.run_bind, Sem.run_pure, Result.andThen_ok, List.map_toArray, List.map_cons, List.map_nil, hs, hx, hr]
  exact hK _ _ (h v' w' h2 h3 h4)
end

/-- A thing in memory: which blocks are its own, and what it says of them. -/
structure Thing (base : Nat) where
  holds : (Nat → Prop) → World → Prop
  lt : ∀ {O : Nat → Prop} {w : World}, holds O w → ∀ k, O k → base ≤ k ∧ k < w.heap.size
  keep : ∀ {O : Nat → Prop} {w w' : World}, holds O w → (∀ k, O k → w'.heap[k]? = w.heap[k]?) → holds O w'

/-- Things that share nothing, in a world that is as it was below a border. -/
structure Fleet (base : Nat) (w0 : World) (l : List (Thing base)) (w : World) : Prop where
  lo : base ≤ w0.heap.size
  bel : Below base w0 w
  each : ∃ Os : Nat → Nat → Prop, (∀ (i : Nat) (t : Thing base), l[i]? = some t → t.holds (Os i) w) ∧ ∀ i j, i < l.length → j < l.length → i ≠ j → ∀ k, Os i k → Os j k → False

section
variable {base : Nat} {w0 w w' : World} {l : List (Thing base)}

theorem Fleet.start (w : World) : Fleet w.heap.size w [] w := ⟨Nat.le_refl _, Below.refl _ _, fun _ _ => False, fun i t h => by simp at h, fun i j h => by simp at h⟩

theorem Fleet.le (h : Fleet base w0 l w) : base ≤ w.heap.size := Nat.le_trans h.lo h.bel.size

theorem Fleet.below (h : Fleet base w0 l w) (hb : Below w.heap.size w w') : Fleet base w0 l w' := by
  have hB := h.le
  obtain ⟨h0, h1, Os, h2, h3⟩ := h
  exact ⟨h0, h1.trans (hb.mono hB), Os, fun i t ht => t.keep (h2 i t ht) (fun k hk => hb.block k ((t.lt (h2 i t ht) k hk).2)), h3⟩

/-- What one of them is, with the blocks that are its own, and how a world behind is laid again. -/
theorem Fleet.one (h : Fleet base w0 l w) {i : Nat} {t : Thing base} (hi : l[i]? = some t) :
    ∃ O, t.holds O w ∧ (∀ (t' : Thing base) (O' : Nat → Prop) (w' : World), t'.holds O' w' → Moved O w w' → (∀ k, O' k → O k ∨ w.heap.size ≤ k) → Fleet base w0 (l.set i t') w') ∧
      ∀ (j : Nat) (u : Thing base), j ≠ i → l[j]? = some u → ∃ O2, u.holds O2 w ∧ ∀ k, O2 k → O k → False := by
  have hB := h.le
  obtain ⟨h0, h1, Os, h2, h3⟩ := h
  have hil : i < l.length := (List.getElem?_eq_some_iff.1 hi).1
  refine ⟨Os i, h2 i t hi, fun t' O' w' ht' hm hO => ⟨h0, ?_, fun j k => if j = i then O' k else Os j k, fun j u hu => ?_, fun j j' hj hj' hne k hk hk' => ?_⟩, fun j u hne hu => ⟨Os j, h2 j u hu, h3 j i (List.getElem?_eq_some_iff.1 hu).1 hil hne⟩⟩
  · refine ⟨hm.os.trans h1.os, hm.tape.trans h1.tape, hm.output.trans h1.output, Nat.le_trans h1.size hm.size, fun k hk => ?_⟩
    exact (hm.block k (by omega) (fun ho => by have := (t.lt (h2 i t hi) k ho).1; omega)).trans (h1.block k hk)
  · by_cases e : j = i
    · subst e
      rw [List.getElem?_set_self hil] at hu
      cases hu
      simpa using ht'
    · rw [List.getElem?_set_ne (fun h => e h.symm)] at hu
      have := h2 j u hu
      simp only [e, if_false]
      exact u.keep this (fun k hk => hm.block k (u.lt this k hk).2 (fun ho => h3 j i (List.getElem?_eq_some_iff.1 hu).1 hil e k hk ho))
  · simp only [List.length_set] at hj hj'
    by_cases e : j = i
    · subst e
      have e' : j' ≠ j := fun h => hne h.symm
      simp only [if_true, e', if_false] at hk hk'
      obtain ⟨u, hu⟩ : ∃ u, l[j']? = some u := ⟨_, List.getElem?_eq_getElem hj'⟩
      rcases hO k hk with ho | ho
      · exact h3 j j' hj hj' hne k ho hk'
      · have := (u.lt (h2 j' u hu) k hk').2; omega
    · by_cases e' : j' = i
      · subst e'
        simp only [if_true, e, if_false] at hk hk'
        obtain ⟨u, hu⟩ : ∃ u, l[j]? = some u := ⟨_, List.getElem?_eq_getElem hj⟩
        rcases hO k hk' with ho | ho
        · exact h3 j j' hj hj' hne k hk ho
        · have := (u.lt (h2 j u hu) k hk).2; omega
      · simp only [e, e', if_false] at hk hk'
        exact h3 j j' hj hj' hne k hk hk'

/-- One more, in new memory. -/
theorem Fleet.more (h : Fleet base w0 l w) {t : Thing base} {O : Nat → Prop} (ht : t.holds O w') (hb : Below w.heap.size w w') (hO : ∀ k, O k → w.heap.size ≤ k) : Fleet base w0 (l ++ [t]) w' := by
  have hB := h.le
  obtain ⟨h0, h1, Os, h2, h3⟩ := h
  have old : ∀ (i : Nat) (u : Thing base), l[i]? = some u → u.holds (Os i) w' := fun i u hu => u.keep (h2 i u hu) (fun k hk => hb.block k ((u.lt (h2 i u hu) k hk).2))
  refine ⟨h0, h1.trans (hb.mono hB), fun j k => if j = l.length then O k else Os j k, fun j u hu => ?_, fun j j' hj hj' hne k hk hk' => ?_⟩
  · by_cases e : j = l.length
    · subst e
      simp at hu
      subst hu
      simpa using ht
    · have hj : j < l.length := by
        have := (List.getElem?_eq_some_iff.1 hu).1
        simp at this
        omega
      rw [List.getElem?_append_left hj] at hu
      simp only [e, if_false]
      exact old j u hu
  · simp only [List.length_append, List.length_singleton] at hj hj'
    have aux : ∀ i, i < l.length → ∀ k, Os i k → k < w.heap.size := fun i hi k hk => by
      obtain ⟨u, hu⟩ : ∃ u, l[i]? = some u := ⟨_, List.getElem?_eq_getElem hi⟩
      exact (u.lt (h2 i u hu) k hk).2
    by_cases e : j = l.length
    · have e' : j' ≠ l.length := fun h => hne (e.trans h.symm)
      simp only [e, e', if_true, if_false] at hk hk'
      have := hO k hk
      have := aux j' (by omega) k hk'
      omega
    · by_cases e' : j' = l.length
      · simp only [e, e', if_true, if_false] at hk hk'
        have := hO k hk'
        have := aux j (by omega) k hk
        omega
      · simp only [e, e', if_false] at hk hk'
        exact h3 j j' (by omega) (by omega) hne k hk hk'

end

/-- A row of the call's own. -/
def rowT (base e z : Nat) (v : Value) (n : Nat) (xs : List Value) : Thing base where
  holds O w := w.ownsRow base e z v n xs ∧ O = fun k => v.ownBlock = some k
  lt := by
    rintro O w ⟨h, rfl⟩ k hk
    exact h.lt k hk
  keep := by
    rintro O w w' ⟨h, rfl⟩ hk
    refine ⟨⟨h.1, ?_⟩, rfl⟩
    rcases h.2 with h2 | ⟨g, cap, cur, rfl, hb, hg, r⟩
    · exact .inl h2
    · exact .inr ⟨g, cap, cur, rfl, hb, (hk g rfl).trans hg, r⟩

section
variable {base : Nat} {w0 w : World} {l : List (Thing base)} {e z g n cap : Nat} {xs : List Value}

theorem Fleet.cell (h : Fleet base w0 l w) (i : Nat) (hi : l[i]? = some (rowT base e z (.slice (some ⟨g, 0, none⟩) n cap) n xs)) {j : Nat} {u : Value} (hu : xs[j]? = some u) :
    w.cell? ⟨g, j, none⟩ = some u ∧ w.frozen? ⟨g, j, none⟩ = false := by
  obtain ⟨O, ⟨ho, rfl⟩, _⟩ := h.one hi
  exact own_cell ho hu

theorem Fleet.put (h : Fleet base w0 l w) (i : Nat) (hi : l[i]? = some (rowT base e z (.slice (some ⟨g, 0, none⟩) n cap) n xs)) (j : Nat) (u : Value) :
    Fleet base w0 (l.set i (rowT base e z (.slice (some ⟨g, 0, none⟩) n cap) n (xs.set j u))) (w.setCell ⟨g, j, none⟩ u) := by
  obtain ⟨O, ⟨ho, rfl⟩, hset, _⟩ := h.one hi
  exact hset (rowT base e z (.slice (some ⟨g, 0, none⟩) n cap) n (xs.set j u)) _ _ ⟨own_put ho u, rfl⟩ ((Moved.refl (fun k => (Value.slice (some ⟨g, 0, none⟩) n cap).ownBlock = some k) w).setCell (b := g) (.inl rfl) _ _) (fun k hk => .inl hk)

/-- A row of the call's own that is made: one thing more. -/
theorem Fleet.made (h : Fleet base w0 l w) (C : Array Value) (e n : Nat) (hn : C.size = n) (hm : n ≤ 1000000) :
    Fleet base w0 (l ++ [rowT base e 1 (.slice (some ⟨w.heap.size, 0, none⟩) n n) n C.toList]) (w.alloc (.cells C e)) := by
  subst hn
  refine h.more (t := rowT base e 1 (.slice (some ⟨w.heap.size, 0, none⟩) C.size C.size) C.size C.toList) ⟨⟨by simp, .inr ⟨w.heap.size, C.size, C, rfl, h.le, heap_alloc_new w _, Nat.le_refl _, by unfold maxLen; omega, by simp, ?_⟩⟩, rfl⟩ ((Below.refl _ w).alloc (Nat.le_refl _) _) (fun k hk => by simp [Value.ownBlock] at hk; omega)
  exact List.take_of_length_le (by simp)

theorem Fleet.slice {v : Value} (h : Fleet base w0 l w) (i : Nat) (hi : l[i]? = some (rowT base e z v n xs)) : ∃ a c, v = .slice a n c := by
  obtain ⟨O, ⟨ho, rfl⟩, _⟩ := h.one hi
  exact own_slice ho

/-- 'append' to a row that is one of several things. -/
theorem wpList_append_fleet {P : Program} {ops : Array Oper} {rest : List Oper} {o : Oper} {a : Act} {Q : Exit → Act → World → Prop} (h : Fleet base w0 l w) (i : Nat) {v : Value} (hi : l[i]? = some (rowT base e z v n xs)) (hgd : o.guard = none) (s x : Operand) (t : TypeId)
    (ho : o.op = .call { callee := .builtin .append, args := #[s, x], argTypes := #[t, t] }) (zv : Value) (bytes : Nat) (ht : P.underlying t = some (.slice e)) (hinfo : (P.info? e).map (fun i => (i.zero, i.size, i.bytes)) = some (some zv, z, bytes)) (hzs : zv.cells.size = z) (hsz : 0 < z)
    (hs : a.eval s = v) (ad : Addr) (m c : Nat) (news : List Value) (hx : a.eval x = .slice (some ad) m c) (hl : news.length = m * z) (hnews : ∀ j u, news[j]? = some u → w.cell? (ad.add j) = some u) (h1 : ∀ u ∈ news, u.oneCell' = true)
    (h63 : n + m ≤ maxLen) (hbytes : (n + m) * bytes ≤ 140737488355328)
    (hK : ∀ v' w', Fleet base w0 (l.set i (rowT base e z v' (n + m) (xs ++ news))) w' → wpList P ops Q rest (a.put o.dst v') w') : wpList P ops Q (o :: rest) a w := by
  obtain ⟨O, ⟨ho', rfl⟩, hset, _⟩ := h.one hi
  obtain ⟨i0, hi0, hz0, hz1, hz2⟩ := info_parts hinfo
  refine wpList_append_own2 w hgd s x t ho base e i0 zv z bytes ht hi0 hz0 hz1 hz2 hzs hsz v n xs hs ho' ad m c news hx hl hnews h1 h63 hbytes h.le ?_
  intro v' w' ho2 hg hk
  exact hK v' w' (hset (rowT base e z v' (n + m) (xs ++ news)) _ w' ⟨ho2, rfl⟩ ((Moved.refl _ w).grown hg (fun k hk => .inl hk)) hk)

theorem Fleet.nil (h : Fleet base w0 l w) (e z : Nat) : Fleet base w0 (l ++ [rowT base e z (.slice none 0 0) 0 []]) w :=
  h.more (t := rowT base e z (.slice none 0 0) 0 []) (O := fun k => (Value.slice none 0 0).ownBlock = some k) ⟨World.ownsRow_nil _ _ _ _, rfl⟩ (Below.refl _ _) (fun k hk => by simp [Value.ownBlock] at hk)

end

end Go.Proofs.YteellffkjjllgaaGreat

namespace Go.Proofs.YteellffkjjllgaaGreat
open Go.RowKit

/-- What becomes of a thing: t' now, and but for its own blocks all is as it was. -/
def Turns (t' : Thing 0) (O : Nat → Prop) (w w' : World) : Prop := ∃ O', t'.holds O' w' ∧ Moved O w w' ∧ ∀ k, O' k → O k ∨ w.heap.size ≤ k

/-- A thing that is made, in new memory. -/
def Fresh (t : Thing 0) (w w' : World) : Prop := ∃ O, t.holds O w' ∧ Below w.heap.size w w' ∧ ∀ k, O k → w.heap.size ≤ k

/-- Things that share nothing; but for the blocks of U all that was there in w0 is as it was. -/
structure Crew (U : Nat → Prop) (w0 : World) (l : List (Thing 0)) (w : World) : Prop where
  mv : Moved U w0 w
  each : ∃ Os : Nat → Nat → Prop, (∀ (i : Nat) (t : Thing 0), l[i]? = some t → t.holds (Os i) w ∧ ∀ k, Os i k → U k ∨ w0.heap.size ≤ k) ∧ ∀ i j, i < l.length → j < l.length → i ≠ j → ∀ k, Os i k → Os j k → False

section
variable {U : Nat → Prop} {w0 w w' : World} {l : List (Thing 0)}

theorem Crew.start (w : World) : Crew (fun _ => False) w [] w := ⟨Moved.refl _ _, fun _ _ => False, fun i t h => by simp at h, fun i j h => by simp at h⟩

theorem Crew.bel (h : Crew (fun _ => False) w0 l w) : Below w0.heap.size w0 w := h.mv.below (Nat.le_refl _) (fun _ hk => hk.elim)

theorem Crew.size (h : Crew U w0 l w) : w0.heap.size ≤ w.heap.size := h.mv.size

theorem Crew.below (h : Crew U w0 l w) (hb : Below w.heap.size w w') : Crew U w0 l w' := by
  obtain ⟨h1, Os, h2, h3⟩ := h
  refine ⟨h1.trans (O' := fun _ => False) (.of_below _ hb) (fun _ h => h.elim), Os, fun i t ht => ⟨t.keep (h2 i t ht).1 (fun k hk => hb.block k ((t.lt (h2 i t ht).1 k hk).2)), (h2 i t ht).2⟩, h3⟩

theorem Crew.one (h : Crew U w0 l w) {i : Nat} {t : Thing 0} (hi : l[i]? = some t) :
    ∃ O, t.holds O w ∧ (∀ (t' : Thing 0) (w' : World), Turns t' O w w' → Crew U w0 (l.set i t') w') ∧
      (∀ (j : Nat) (u : Thing 0), j ≠ i → l[j]? = some u → ∃ O2, u.holds O2 w ∧ ∀ k, O2 k → O k → False) ∧ ∀ k, O k → U k ∨ w0.heap.size ≤ k := by
  have hsz := h.size
  obtain ⟨h1, Os, h2, h3⟩ := h
  have hil : i < l.length := (List.getElem?_eq_some_iff.1 hi).1
  refine ⟨Os i, (h2 i t hi).1, ?_, fun j u hne hu => ⟨Os j, (h2 j u hu).1, h3 j i (List.getElem?_eq_some_iff.1 hu).1 hil hne⟩, (h2 i t hi).2⟩
  rintro t' w' ⟨O', ht', hm, hO⟩
  have lim : ∀ k, O' k → U k ∨ w0.heap.size ≤ k := fun k hk => (hO k hk).elim ((h2 i t hi).2 k) (fun h => .inr (Nat.le_trans hsz h))
  refine ⟨h1.trans hm (fun k hk => (h2 i t hi).2 k hk), fun j k => if j = i then O' k else Os j k, fun j u hu => ?_, fun j j' hj hj' hne k hk hk' => ?_⟩
  · by_cases e : j = i
    · subst e
      rw [List.getElem?_set_self hil] at hu
      cases hu
      simpa using ⟨ht', lim⟩
    · rw [List.getElem?_set_ne (fun h => e h.symm)] at hu
      have := h2 j u hu
      simp only [e, if_false]
      exact ⟨u.keep this.1 (fun k hk => hm.block k (u.lt this.1 k hk).2 (fun ho => h3 j i (List.getElem?_eq_some_iff.1 hu).1 hil e k hk ho)), this.2⟩
  · simp only [List.length_set] at hj hj'
    have aux : ∀ j, j < l.length → ∀ k, Os j k → k < w.heap.size := fun j hj k hk => by
      obtain ⟨u, hu⟩ : ∃ u, l[j]? = some u := ⟨_, List.getElem?_eq_getElem hj⟩
      exact (u.lt (h2 j u hu).1 k hk).2
    by_cases e : j = i
    · subst e
      have e' : j' ≠ j := fun h => hne h.symm
      simp only [if_true, e', if_false] at hk hk'
      rcases hO k hk with ho | ho
      · exact h3 j j' hj hj' hne k ho hk'
      · have := aux j' hj' k hk'; omega
    · by_cases e' : j' = i
      · subst e'
        simp only [if_true, e, if_false] at hk hk'
        rcases hO k hk' with ho | ho
        · exact h3 j j' hj hj' hne k hk ho
        · have := aux j hj k hk; omega
      · simp only [e, e', if_false] at hk hk'
        exact h3 j j' hj hj' hne k hk hk'

theorem Crew.more (h : Crew U w0 l w) {t : Thing 0} (hf : Fresh t w w') : Crew U w0 (l ++ [t]) w' := by
  obtain ⟨O, ht, hb, hO⟩ := hf
  have hsz := h.size
  obtain ⟨h1, Os, h2, h3⟩ := h
  have aux : ∀ i, i < l.length → ∀ k, Os i k → k < w.heap.size := fun i hi k hk => by
    obtain ⟨u, hu⟩ : ∃ u, l[i]? = some u := ⟨_, List.getElem?_eq_getElem hi⟩
    exact (u.lt (h2 i u hu).1 k hk).2
  refine ⟨h1.trans (O' := fun _ => False) (.of_below _ hb) (fun _ h => h.elim), fun j k => if j = l.length then O k else Os j k, fun j u hu => ?_, fun j j' hj hj' hne k hk hk' => ?_⟩
  · by_cases e : j = l.length
    · subst e
      simp at hu
      subst hu
      simp only [if_true]
      exact ⟨ht, fun k hk => .inr (Nat.le_trans hsz (hO k hk))⟩
    · have hj : j < l.length := by
        have := (List.getElem?_eq_some_iff.1 hu).1
        simp at this
        omega
      rw [List.getElem?_append_left hj] at hu
      simp only [e, if_false]
      have := h2 j u hu
      exact ⟨u.keep this.1 (fun k hk => hb.block k (u.lt this.1 k hk).2), this.2⟩
  · simp only [List.length_append, List.length_singleton] at hj hj'
    by_cases e : j = l.length
    · have e' : j' ≠ l.length := fun h => hne (e.trans h.symm)
      simp only [e, e', if_true, if_false] at hk hk'
      have := hO k hk
      have := aux j' (by omega) k hk'
      omega
    · by_cases e' : j' = l.length
      · simp only [e, e', if_true, if_false] at hk hk'
        have := hO k hk'
        have := aux j (by omega) k hk
        omega
      · simp only [e, e', if_false] at hk hk'
        exact h3 j j' (by omega) (by omega) hne k hk hk'

/-- The last one takes the place of another one, which is forgotten. -/
theorem Crew.swap {t : Thing 0} (h : Crew U w0 (l ++ [t]) w) (i : Nat) (hi : i < l.length) : Crew U w0 (l.set i t) w := by
  obtain ⟨h1, Os, h2, h3⟩ := h
  refine ⟨h1, fun j => if j = i then Os l.length else Os j, fun j u hu => ?_, fun j j' hj hj' hne k hk hk' => ?_⟩
  · by_cases e : j = i
    · subst e
      rw [List.getElem?_set_self hi] at hu
      cases hu
      simp only [if_true]
      exact h2 l.length t (by simp)
    · rw [List.getElem?_set_ne (fun h => e h.symm)] at hu
      simp only [e, if_false]
      exact h2 j u (by rw [List.getElem?_append_left (List.getElem?_eq_some_iff.1 hu).1]; exact hu)
  · simp only [List.length_set] at hj hj'
    have big : ∀ i, i < l.length → i < (l ++ [t]).length := fun i hi => by simp; omega
    have last : l.length < (l ++ [t]).length := by simp
    by_cases e : j = i
    · subst e
      have e' : j' ≠ j := fun h => hne h.symm
      simp only [if_true, e', if_false] at hk hk'
      exact h3 _ _ last (big _ hj') (by omega) k hk hk'
    · by_cases e' : j' = i
      · subst e'
        simp only [if_true, e, if_false] at hk hk'
        exact h3 _ _ (big _ hj) last (by omega) k hk hk'
      · simp only [e, e', if_false] at hk hk'
        exact h3 _ _ (big _ hj) (big _ hj') hne k hk hk'

/-- Those behind are forgotten. -/
theorem Crew.first {l' : List (Thing 0)} (h : Crew U w0 (l ++ l') w) : Crew U w0 l w := by
  obtain ⟨h1, Os, h2, h3⟩ := h
  exact ⟨h1, Os, fun j u hu => h2 j u (by rw [List.getElem?_append_left (List.getElem?_eq_some_iff.1 hu).1]; exact hu), fun i j hi hj => h3 i j (by simp; omega) (by simp; omega)⟩

end

/-- The first one is forgotten. -/
theorem Crew.tail {U : Nat → Prop} {w0 w : World} {l : List (Thing 0)} {t : Thing 0} (h : Crew U w0 (t :: l) w) : Crew U w0 l w := by
  obtain ⟨h1, Os, h2, h3⟩ := h
  exact ⟨h1, fun i => Os (i + 1), fun j u hu => h2 (j + 1) u (by simpa using hu), fun i j hi hj hne => h3 (i + 1) (j + 1) (by simpa using hi) (by simpa using hj) (by omega)⟩

/-- A call that turns one thing, among others. -/
theorem Crew.turn {P : Program} {U : Nat → Prop} {w0 w : World} {l : List (Thing 0)} (h : Crew U w0 l w) (i : Nat) {t t' : Thing 0} (hi : l[i]? = some t) {f : Nat} {args : Array Value} {E : Ending}
    (hc : ∀ O, t.holds O w → (∀ k, O k → U k ∨ w0.heap.size ≤ k) → Calls P f args w fun e w' => e = E ∧ Turns t' O w w') : Calls P f args w fun e w' => e = E ∧ Crew U w0 (l.set i t') w' := by
  obtain ⟨O, ho, hset, _, hU⟩ := h.one hi
  exact (hc O ho hU).mono fun e w' ⟨he, ht⟩ => ⟨he, hset t' w' ht⟩

theorem Crew.look {P : Program} {U : Nat → Prop} {w0 w : World} {l : List (Thing 0)} (h : Crew U w0 l w) (i : Nat) {t : Thing 0} (hi : l[i]? = some t) {f : Nat} {args : Array Value} {Q : Ending → World → Prop}
    (hc : ∀ O, t.holds O w → Calls P f args w Q) : Calls P f args w Q := by
  obtain ⟨O, ho, _⟩ := h.one hi
  exact hc O ho

/-- Several things, held as one. -/
def groupT (l : List (Thing 0)) : Thing 0 where
  holds O w := ∃ Os : Nat → Nat → Prop, (∀ (i : Nat) (t : Thing 0), l[i]? = some t → t.holds (Os i) w) ∧ (∀ i j, i < l.length → j < l.length → i ≠ j → ∀ k, Os i k → Os j k → False) ∧ O = fun k => ∃ i, i < l.length ∧ Os i k
  lt := by
    rintro O w ⟨Os, h1, _, rfl⟩ k ⟨i, hi, hk⟩
    exact (l[i]).lt (h1 i _ (List.getElem?_eq_getElem hi)) k hk
  keep := by
    rintro O w w' ⟨Os, h1, h2, rfl⟩ hk
    exact ⟨Os, fun i t ht => t.keep (h1 i t ht) (fun k h => hk k ⟨i, (List.getElem?_eq_some_iff.1 ht).1, h⟩), h2, rfl⟩

theorem groupT_open {l : List (Thing 0)} {O : Nat → Prop} {w : World} (h : (groupT l).holds O w) : Crew O w l w := by
  obtain ⟨Os, h1, h2, rfl⟩ := h
  exact ⟨Moved.refl _ _, Os, fun i t ht => ⟨h1 i t ht, fun k hk => .inl ⟨i, (List.getElem?_eq_some_iff.1 ht).1, hk⟩⟩, h2⟩

theorem groupT_shut {l : List (Thing 0)} {O : Nat → Prop} {w w' : World} (h : Crew O w l w') : Turns (groupT l) O w w' := by
  obtain ⟨h1, Os, h2, h3⟩ := h
  refine ⟨_, ⟨Os, fun i t ht => (h2 i t ht).1, h3, rfl⟩, h1, ?_⟩
  rintro k ⟨i, hi, hk⟩
  exact (h2 i _ (List.getElem?_eq_getElem hi)).2 k hk

/-- Things that were made one behind the other, held as one. -/
theorem groupT_new {l : List (Thing 0)} {w w' : World} (h : Crew (fun _ => False) w l w') : Fresh (groupT l) w w' := by
  obtain ⟨O, h1, _, h3⟩ := groupT_shut h
  exact ⟨O, h1, h.bel, fun k hk => (h3 k hk).elim False.elim id⟩

/-- A thing of which some value is left open. -/
def exT {α : Type} (f : α → Thing 0) : Thing 0 where
  holds O w := ∃ a, (f a).holds O w
  lt := by
    rintro O w ⟨a, h⟩
    exact (f a).lt h
  keep := by
    rintro O w w' ⟨a, h⟩ hk
    exact ⟨a, (f a).keep h hk⟩

/-- A thing of which something holds besides. -/
def withT (p : Prop) (t : Thing 0) : Thing 0 where
  holds O w := p ∧ t.holds O w
  lt h := t.lt h.2
  keep h hk := ⟨h.1, t.keep h.2 hk⟩

theorem Turns.ex {α : Type} {f : α → Thing 0} {O : Nat → Prop} {w w' : World} (a : α) (h : Turns (f a) O w w') : Turns (exT f) O w w' := by
  obtain ⟨O', h1, h2, h3⟩ := h
  exact ⟨O', ⟨a, h1⟩, h2, h3⟩

theorem Turns.and {p : Prop} {t : Thing 0} {O : Nat → Prop} {w w' : World} (hp : p) (h : Turns t O w w') : Turns (withT p t) O w w' := by
  obtain ⟨O', h1, h2, h3⟩ := h
  exact ⟨O', ⟨hp, h1⟩, h2, h3⟩

theorem Turns.same {t : Thing 0} {O : Nat → Prop} {w : World} (h : t.holds O w) : Turns t O w w := ⟨O, h, Moved.refl _ _, fun _ hk => .inl hk⟩

theorem Fresh.ex {α : Type} {f : α → Thing 0} {w w' : World} (a : α) (h : Fresh (f a) w w') : Fresh (exT f) w w' := by
  obtain ⟨O, h1, h2, h3⟩ := h
  exact ⟨O, ⟨a, h1⟩, h2, h3⟩

theorem Fresh.and {p : Prop} {t : Thing 0} {w w' : World} (hp : p) (h : Fresh t w w') : Fresh (withT p t) w w' := by
  obtain ⟨O, h1, h2, h3⟩ := h
  exact ⟨O, ⟨hp, h1⟩, h2, h3⟩

/-- A block whose cells are known. -/
def blkT (b : Nat) (cs : Array Value) (T : Nat) : Thing 0 where
  holds O w := w.heap[b]? = some (.cells cs T (0, 0)) ∧ O = fun k => k = b
  lt := by
    rintro O w ⟨h, rfl⟩ k rfl
    exact ⟨Nat.zero_le _, (Array.getElem?_eq_some_iff.1 h).1⟩
  keep := by
    rintro O w w' ⟨h, rfl⟩ hk
    exact ⟨(hk b rfl).trans h, rfl⟩

section
variable {U : Nat → Prop} {w0 w : World} {l : List (Thing 0)} {e z g n cap b T : Nat} {xs : List Value} {cs : Array Value}

theorem Crew.at (h : Crew U w0 l w) (i : Nat) (hi : l[i]? = some (blkT b cs T)) {j : Nat} {u : Value} (hu : cs[j]? = some u) : w.cell? ⟨b, j, none⟩ = some u ∧ w.frozen? ⟨b, j, none⟩ = false := by
  obtain ⟨O, ⟨ho, rfl⟩, _⟩ := h.one hi
  exact ⟨(Lib.cell_of_heap ho j).trans hu, Lib.frozen_of_heap ho j⟩

theorem Crew.lt (h : Crew U w0 l w) (i : Nat) (hi : l[i]? = some (blkT b cs T)) : b < w.heap.size := by
  obtain ⟨O, ⟨ho, rfl⟩, _⟩ := h.one hi
  exact (Array.getElem?_eq_some_iff.1 ho).1

theorem Crew.set (h : Crew U w0 l w) (i : Nat) (hi : l[i]? = some (blkT b cs T)) (j : Nat) (u : Value) : Crew U w0 (l.set i (blkT b (cs.setIfInBounds j u) T)) (w.setCell ⟨b, j, none⟩ u) := by
  obtain ⟨O, ⟨ho, rfl⟩, hset, _⟩ := h.one hi
  exact hset _ _ ⟨_, ⟨heap_setCell_same w b j cs T u ho, rfl⟩, (Moved.refl (fun k => k = b) w).setCell (.inl rfl) _ _, fun k hk => .inl hk⟩

theorem Crew.block (h : Crew U w0 l w) (cs : Array Value) (T : Nat) : Crew U w0 (l ++ [blkT w.heap.size cs T]) (w.alloc (.cells cs T)) :=
  h.more (t := blkT w.heap.size cs T) ⟨fun k => k = w.heap.size, ⟨heap_alloc_new w _, rfl⟩, (Below.refl _ w).alloc (Nat.le_refl _) _, fun _ hk => Nat.le_of_eq hk.symm⟩

theorem Crew.cell (h : Crew U w0 l w) (i : Nat) (hi : l[i]? = some (rowT 0 e z (.slice (some ⟨g, 0, none⟩) n cap) n xs)) {j : Nat} {u : Value} (hu : xs[j]? = some u) :
    w.cell? ⟨g, j, none⟩ = some u ∧ w.frozen? ⟨g, j, none⟩ = false := by
  obtain ⟨O, ⟨ho, rfl⟩, _⟩ := h.one hi
  exact own_cell ho hu

theorem Crew.own {v : Value} (h : Crew U w0 l w) (i : Nat) (hi : l[i]? = some (rowT 0 e z v n xs)) : w.ownsRow 0 e z v n xs := by
  obtain ⟨O, ⟨ho, rfl⟩, _⟩ := h.one hi
  exact ho

theorem Crew.put (h : Crew U w0 l w) (i : Nat) (hi : l[i]? = some (rowT 0 e z (.slice (some ⟨g, 0, none⟩) n cap) n xs)) (j : Nat) (u : Value) :
    Crew U w0 (l.set i (rowT 0 e z (.slice (some ⟨g, 0, none⟩) n cap) n (xs.set j u))) (w.setCell ⟨g, j, none⟩ u) := by
  obtain ⟨O, ⟨ho, rfl⟩, hset, _⟩ := h.one hi
  exact hset (rowT 0 e z (.slice (some ⟨g, 0, none⟩) n cap) n (xs.set j u)) _ ⟨_, ⟨own_put ho u, rfl⟩, (Moved.refl (fun k => (Value.slice (some ⟨g, 0, none⟩) n cap).ownBlock = some k) w).setCell (b := g) (.inl rfl) _ _, fun k hk => .inl hk⟩

theorem Crew.made (h : Crew U w0 l w) (C : Array Value) (e n : Nat) (hn : C.size = n) (hm : n ≤ 1000000) :
    Crew U w0 (l ++ [rowT 0 e 1 (.slice (some ⟨w.heap.size, 0, none⟩) n n) n C.toList]) (w.alloc (.cells C e)) := by
  subst hn
  refine h.more (t := rowT 0 e 1 (.slice (some ⟨w.heap.size, 0, none⟩) C.size C.size) C.size C.toList) ⟨_, ⟨⟨by simp, .inr ⟨w.heap.size, C.size, C, rfl, Nat.zero_le _, heap_alloc_new w _, Nat.le_refl _, by unfold maxLen; omega, by simp, ?_⟩⟩, rfl⟩, (Below.refl _ w).alloc (Nat.le_refl _) _, fun k hk => by simp [Value.ownBlock] at hk; omega⟩
  exact List.take_of_length_le (by simp)

theorem Crew.nil (h : Crew U w0 l w) (e z : Nat) : Crew U w0 (l ++ [rowT 0 e z (.slice none 0 0) 0 []]) w :=
  h.more (t := rowT 0 e z (.slice none 0 0) 0 []) ⟨fun k => (Value.slice none 0 0).ownBlock = some k, ⟨World.ownsRow_nil _ _ _ _, rfl⟩, Below.refl _ _, fun k hk => by simp [Value.ownBlock] at hk⟩

theorem Crew.empty (h : Crew U w0 l w) (e z : Nat) : Crew U w0 (l ++ [rowT 0 e z (.slice (some ⟨w.heap.size, 0, none⟩) 0 0) 0 []]) (w.alloc (.cells #[] e)) :=
  h.more (t := rowT 0 e z (.slice (some ⟨w.heap.size, 0, none⟩) 0 0) 0 []) ⟨_, ⟨World.ownsRow_made w #[] 0 (Nat.zero_le _) (Nat.zero_le _) (by simp), rfl⟩, (Below.refl _ w).alloc (Nat.le_refl _) _, fun k hk => by simp [Value.ownBlock] at hk; omega⟩

theorem Crew.slice {v : Value} (h : Crew U w0 l w) (i : Nat) (hi : l[i]? = some (rowT 0 e z v n xs)) : ∃ a c, v = .slice a n c := own_slice (h.own i hi)

/-- A row that is not empty lies in a block of its own. -/
theorem Crew.held {v : Value} (h : Crew U w0 l w) (i : Nat) (hi : l[i]? = some (rowT 0 e z v n xs)) (hn : 0 < n) : ∃ g c, v = .slice (some ⟨g, 0, none⟩) n c := by
  rcases (h.own i hi).2 with ⟨_, h0⟩ | ⟨g, c, _, hv, _⟩
  · omega
  · exact ⟨g, c, hv⟩

/-- 'append' to a row that is one of several things. -/
theorem run_append_crew {P : Program} (h : Crew U w0 l w) (i : Nat) {v : Value} (hi : l[i]? = some (rowT 0 e z v n xs)) (t ty : TypeId)
    (zv : Value) (bytes : Nat) (ht : P.underlying t = some (.slice e)) (hinfo : (P.info? e).map (fun i => (i.zero, i.size, i.bytes)) = some (some zv, z, bytes)) (hzs : zv.cells.size = z) (hsz : 0 < z)
    (ad : Addr) (m c : Nat) (news : List Value) (hl : news.length = m * z) (hnews : ∀ j u, news[j]? = some u → w.cell? (ad.add j) = some u) (h1 : ∀ u ∈ news, u.oneCell' = true)
    (h63 : n + m ≤ maxLen) (hbytes : (n + m) * bytes ≤ 140737488355328) :
    ∃ v' w', (Builtin.append_ #[t, t] ty #[v, .slice (some ad) m c]).run P w = .ok v' w' ∧ Crew U w0 (l.set i (rowT 0 e z v' (n + m) (xs ++ news))) w' := by
  obtain ⟨O, ⟨ho', rfl⟩, hset, _⟩ := h.one hi
  obtain ⟨i0, hi0, hz0, hz1, hz2⟩ := info_parts hinfo
  obtain ⟨v', w', hr, h2, h3, h4⟩ := run_append_own2 (P := P) w 0 t ty e i0 zv z bytes ht hi0 hz0 hz1 hz2 hzs hsz v n xs ho' ad m c news hl hnews h1 h63 hbytes (Nat.zero_le _)
  exact ⟨v', w', hr, hset (rowT 0 e z v' (n + m) (xs ++ news)) w' ⟨_, ⟨h2, rfl⟩, (Moved.refl _ w).grown h3 (fun k hk => .inl hk), h4⟩⟩

theorem wpList_append_crew {P : Program} {ops : Array Oper} {rest : List Oper} {o : Oper} {a : Act} {Q : Exit → Act → World → Prop} (h : Crew U w0 l w) (i : Nat) {v : Value} (hi : l[i]? = some (rowT 0 e z v n xs)) (hgd : o.guard = none) (s x : Operand) (t : TypeId)
    (ho : o.op = .call { callee := .builtin .append, args := #[s, x], argTypes := #[t, t] }) (zv : Value) (bytes : Nat) (ht : P.underlying t = some (.slice e)) (hinfo : (P.info? e).map (fun i => (i.zero, i.size, i.bytes)) = some (some zv, z, bytes)) (hzs : zv.cells.size = z) (hsz : 0 < z)
    (hs : a.eval s = v) (ad : Addr) (m c : Nat) (news : List Value) (hx : a.eval x = .slice (some ad) m c) (hl : news.length = m * z) (hnews : ∀ j u, news[j]? = some u → w.cell? (ad.add j) = some u) (h1 : ∀ u ∈ news, u.oneCell' = true)
    (h63 : n + m ≤ maxLen) (hbytes : (n + m) * bytes ≤ 140737488355328)
    (hK : ∀ v' w', Crew U w0 (l.set i (rowT 0 e z v' (n + m) (xs ++ news))) w' → wpList P ops Q rest (a.put o.dst v') w') : wpList P ops Q (o :: rest) a w := by
  obtain ⟨v', w', hr, h2⟩ := run_append_crew (P := P) h i hi t o.type zv bytes ht hinfo hzs hsz ad m c news hl hnews h1 h63 hbytes
  refine wpList_plain hgd fun K hK' => ?_
  unfold Oper.wp execOp
  simp only [ho, resolve, invoke, builtin, Sem.run_bind, Sem.run_pure, Result.andThen_ok, List.map_toArray, List.map_cons, List.map_nil, hs, hx, hr]
  exact hK' _ _ (hK v' w' h2)

/-- The thing that stands last is handed on: what was made. -/
theorem Crew.fresh {t : Thing 0} (h : Crew (fun _ => False) w0 [t] w) : Fresh t w0 w := by
  obtain ⟨O, ho, _, _, hU⟩ := h.one (i := 0) rfl
  exact ⟨O, ho, h.bel, fun k hk => (hU k hk).elim False.elim id⟩

end

end Go.Proofs.YteellffkjjllgaaGreat
