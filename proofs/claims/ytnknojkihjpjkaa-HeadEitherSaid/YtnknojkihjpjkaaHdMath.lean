/-
  Heads as plain mathematics: a head's bytes, and the head that bytes say. Conditions: as each theorem states them.
-/
import Derived.Test.YtnknojkihjpjkaaLeMath
import Derived.Test.YtnknojkihjpjkaaSpMath
namespace Go.Rc6
open Go.Rc5

structure Hd where
  gen : Nat
  sectors : Nat
  size : Nat
  spans : List Sp

def need (size : Nat) : Nat := size / 64 + if size % 64 > 0 then 1 else 0

structure Hd.Ok (h : Hd) : Prop where
  gen : h.gen < 18446744073709551616
  low : 2 ≤ h.sectors
  high : h.sectors ≤ 8192
  few : h.spans.length ≤ 8
  chain : Ch 0 h.spans
  fit : ∀ s ∈ h.spans, s.1 + s.2 ≤ h.sectors
  not0 : memB h.spans 0 = false
  not1 : memB h.spans 1 = false
  total : Rc5.total h.spans = need h.size

theorem need_le {size n : Nat} (h : need size ≤ n) : size ≤ 64 * n := by
  unfold need at h
  split at h <;> omega

theorem cnt_all (f : Nat → Bool) (n : Nat) : cnt f n ≤ n := cnt_le f n

theorem Hd.Ok.size_lt {h : Hd} (k : h.Ok) : h.size ≤ 524288 := by
  have h1 : Rc5.total h.spans ≤ h.sectors := by
    rw [total_cnt k.chain.apart k.fit]
    exact cnt_le _ _
  have h2 := need_le (size := h.size) (n := 8192) (by have := k.total; have := k.high; omega)
  omega

/-! Bytes -/

def magic : List UInt8 := [114, 116, 99, 108]

def spanB (s : Sp) : List UInt8 := Rc2.put 2 s.1 ++ Rc2.put 2 s.2

def spansB (l : List Sp) : List UInt8 := l.flatMap spanB

theorem spanB_length (s : Sp) : (spanB s).length = 4 := by simp [spanB, Rc2.put_length]

theorem spansB_length (l : List Sp) : (spansB l).length = 4 * l.length := by
  induction l with
  | nil => rfl
  | cons s l ih =>
    simp only [spansB, List.flatMap_cons, List.length_append, spanB_length, List.length_cons] at ih ⊢
    omega

def body (h : Hd) : List UInt8 := magic ++ (Rc2.put 8 h.gen ++ (Rc2.put 2 h.sectors ++ (Rc2.put 4 h.size ++ (Rc2.put 1 h.spans.length ++ spansB h.spans))))

theorem body_length (h : Hd) : (body h).length = 19 + 4 * h.spans.length := by
  simp only [body, magic, List.length_append, Rc2.put_length, spansB_length, List.length_cons, List.length_nil]
  omega

def text (h : Hd) : List UInt8 := body h ++ List.replicate (60 - (body h).length) 0

theorem text_length (h : Hd) (k : h.spans.length ≤ 8) : (text h).length = 60 := by
  have := body_length h
  simp only [text, List.length_append, List.length_replicate]
  omega

/-- What lies in bytes at p, n of them. -/
def cut (t : List UInt8) (p n : Nat) : List UInt8 := (t.drop p).take n

def many (t : List UInt8) : Nat := Rc2.say (cut t 18 1)

def readSpans (t : List UInt8) : Nat → List Sp
  | 0 => []
  | k + 1 => readSpans t k ++ [(Rc2.say (cut t (19 + 4 * k) 2), Rc2.say (cut t (21 + 4 * k) 2))]

def unhead (t : List UInt8) : Hd := ⟨Rc2.say (cut t 4 8), Rc2.say (cut t 12 2), Rc2.say (cut t 14 4), readSpans t (many t)⟩

theorem readSpans_length (t : List UInt8) (k : Nat) : (readSpans t k).length = k := by
  induction k with
  | zero => rfl
  | succ k ih => simp [readSpans, ih]

theorem cut_append (a b c : List UInt8) (p n : Nat) (hp : a.length = p) (hn : b.length = n) : cut (a ++ (b ++ c)) p n = b := by
  subst hp hn
  simp [cut]

theorem cut_length (t : List UInt8) (p n : Nat) (h : p + n ≤ t.length) : (cut t p n).length = n := by
  simp only [cut, List.length_take, List.length_drop]
  omega

theorem cut_join (t : List UInt8) (p n m : Nat) : cut t p n ++ cut t (p + n) m = cut t p (n + m) := by
  unfold cut
  rw [List.take_add, List.drop_drop]

theorem spansB_snoc (l : List Sp) (s : Sp) : spansB (l ++ [s]) = spansB l ++ spanB s := by simp [spansB]

theorem put_cut (t : List UInt8) (p n : Nat) (h : p + n ≤ t.length) : Rc2.put n (Rc2.say (cut t p n)) = cut t p n := by
  have := Rc2.put_say (cut t p n)
  rwa [cut_length t p n h] at this

theorem spansB_read (t : List UInt8) (k : Nat) (h : 19 + 4 * k ≤ t.length) : spansB (readSpans t k) = cut t 19 (4 * k) := by
  induction k with
  | zero => simp [readSpans, spansB, cut]
  | succ k ih =>
    rw [readSpans, spansB_snoc, ih (by omega), spanB]
    simp only
    rw [put_cut t _ 2 (by omega), put_cut t _ 2 (by omega)]
    have h1 := cut_join t (19 + 4 * k) 2 2
    rw [show 19 + 4 * k + 2 = 21 + 4 * k by omega] at h1
    rw [h1, cut_join t 19 (4 * k) 4]
    rfl

/-- The bytes of the head that bytes say: theirs, but for the first four and what lies behind. -/
theorem body_unhead (t : List UInt8) (hl : t.length = 60) (hm : many t ≤ 8) : body (unhead t) = magic ++ cut t 4 (15 + 4 * many t) := by
  have h1 : Rc2.put 1 (many t) = cut t 18 1 := put_cut t 18 1 (by omega)
  simp only [body, unhead, readSpans_length]
  rw [put_cut t 4 8 (by omega), put_cut t 12 2 (by omega), put_cut t 14 4 (by omega), h1, spansB_read t _ (by omega), cut_join t 18 1, cut_join t 14 4, cut_join t 12 2, cut_join t 4 8]
  congr 2
  omega

theorem split_cut (t : List UInt8) (m : Nat) : t = cut t 0 4 ++ (cut t 4 (15 + 4 * m) ++ t.drop (19 + 4 * m)) := by
  have e1 := cut_join t 0 4 (15 + 4 * m)
  rw [Nat.zero_add] at e1
  rw [← List.append_assoc, e1, show 4 + (15 + 4 * m) = 19 + 4 * m by omega]
  simp [cut]

theorem noughts_iff (t : List UInt8) (hl : t.length = 60) (p : Nat) : t.drop p = List.replicate (60 - p) 0 ↔ ∀ j, p ≤ j → j < 60 → t[j]? = some 0 := by
  constructor
  · intro h j h1 h2
    have := congrArg (fun l => l[j - p]?) h
    simp only [List.getElem?_drop, List.getElem?_replicate] at this
    rw [show p + (j - p) = j by omega] at this
    rw [this, if_pos (by omega)]
  · intro h
    apply List.ext_getElem?
    intro j
    simp only [List.getElem?_drop, List.getElem?_replicate]
    by_cases hj : j < 60 - p
    · rw [if_pos hj, h _ (by omega) (by omega)]
    · rw [if_neg hj, List.getElem?_eq_none (by omega)]

theorem text_unhead (t : List UInt8) (hl : t.length = 60) (hm : many t ≤ 8) : text (unhead t) = magic ++ (cut t 4 (15 + 4 * many t) ++ List.replicate (60 - (19 + 4 * many t)) 0) := by
  have hb := body_length (unhead t)
  rw [show (unhead t).spans.length = many t from readSpans_length t _] at hb
  rw [text, hb, body_unhead t hl hm, List.append_assoc]

theorem text_unhead_iff (t : List UInt8) (hl : t.length = 60) (hm : many t ≤ 8) :
    text (unhead t) = t ↔ cut t 0 4 = magic ∧ ∀ j, 19 + 4 * many t ≤ j → j < 60 → t[j]? = some 0 := by
  rw [← noughts_iff t hl, text_unhead t hl hm]
  have hc := cut_length t 0 4 (by omega)
  have hs := split_cut t (many t)
  constructor
  · intro h
    have h1 := List.append_inj (h.trans hs) (by rw [hc]; rfl)
    exact ⟨h1.1.symm, (List.append_inj h1.2 rfl).2.symm⟩
  · rintro ⟨h1, h2⟩
    rw [← h1, ← h2]
    exact hs.symm

/-! The head of a head's bytes is that head. -/

theorem say_put_lt (k n : Nat) (h : n < 256 ^ k) : Rc2.say (Rc2.put k n) = n := by
  rw [Rc2.say_put, Nat.mod_eq_of_lt h]

theorem cut_mid (a b c d : List UInt8) (p n : Nat) (hp : a.length = p) (hn : b.length = n) : cut (a ++ (b ++ c) ++ d) p n = b := by
  rw [List.append_assoc, List.append_assoc]
  exact cut_append a b (c ++ d) p n hp hn

theorem readSpans_app (a : List UInt8) (ha : a.length = 19) (l : List Sp) (r : List UInt8) (hl : ∀ s ∈ l, s.1 < 65536 ∧ s.2 < 65536) (k : Nat) (hk : k ≤ l.length) : readSpans (a ++ (spansB l ++ r)) k = l.take k := by
  induction k with
  | zero => rfl
  | succ k ih =>
    rw [readSpans, ih (by omega), List.take_succ_eq_append_getElem (by omega)]
    obtain ⟨h1, h2⟩ := hl _ (List.getElem_mem (by omega : k < l.length))
    have e : spansB l = spansB (l.take k) ++ (spanB l[k] ++ spansB (l.drop (k + 1))) := by
      have h3 : l = l.take k ++ (l[k] :: l.drop (k + 1)) := by rw [← List.drop_eq_getElem_cons (by omega : k < l.length), List.take_append_drop]
      have h4 := congrArg spansB h3
      rw [h4]
      simp only [spansB, List.flatMap_append, List.flatMap_cons]
    have hlen : (a ++ spansB (l.take k)).length = 19 + 4 * k := by
      rw [List.length_append, ha, spansB_length, List.length_take]
      omega
    have ex : a ++ (spansB l ++ r) = (a ++ spansB (l.take k)) ++ (Rc2.put 2 l[k].1 ++ (Rc2.put 2 l[k].2 ++ (spansB (l.drop (k + 1)) ++ r))) := by
      rw [e, spanB]
      simp only [List.append_assoc]
    have ey : a ++ (spansB l ++ r) = ((a ++ spansB (l.take k)) ++ Rc2.put 2 l[k].1) ++ (Rc2.put 2 l[k].2 ++ (spansB (l.drop (k + 1)) ++ r)) := by
      rw [ex]
      simp only [List.append_assoc]
    have c1 : cut (a ++ (spansB l ++ r)) (19 + 4 * k) 2 = Rc2.put 2 l[k].1 := by
      rw [ex]
      exact cut_append _ _ _ _ _ hlen (Rc2.put_length _ _)
    have c2 : cut (a ++ (spansB l ++ r)) (21 + 4 * k) 2 = Rc2.put 2 l[k].2 := by
      rw [ey]
      exact cut_append _ _ _ _ _ (by rw [List.length_append, hlen, Rc2.put_length]; omega) (Rc2.put_length _ _)
    rw [c1, c2, say_put_lt 2 _ (by omega), say_put_lt 2 _ (by omega)]

theorem unhead_text {h : Hd} (k : h.Ok) : unhead (text h) = h ∧ many (text h) = h.spans.length := by
  have hz := k.size_lt
  have hg := k.gen
  have hh := k.high
  have hf := k.few
  obtain ⟨gen, sectors, size, spans⟩ := h
  simp only at hz hg hh hf
  have fit : ∀ s ∈ spans, s.1 + s.2 ≤ sectors := k.fit
  let Z := List.replicate (60 - (body ⟨gen, sectors, size, spans⟩).length) (0 : UInt8)
  have ht : text ⟨gen, sectors, size, spans⟩ = magic ++ (Rc2.put 8 gen ++ (Rc2.put 2 sectors ++ (Rc2.put 4 size ++ (Rc2.put 1 spans.length ++ (spansB spans ++ Z))))) := by
    show body _ ++ Z = _
    simp only [body, List.append_assoc]
  have p1 := Rc2.put_length 8 gen
  have p2 := Rc2.put_length 2 sectors
  have p3 := Rc2.put_length 4 size
  have p4 := Rc2.put_length 1 spans.length
  have m4 : magic.length = 4 := rfl
  have c1 : cut (text ⟨gen, sectors, size, spans⟩) 4 8 = Rc2.put 8 gen := by
    rw [ht]
    exact cut_append _ _ _ _ _ m4 p1
  have c2 : cut (text ⟨gen, sectors, size, spans⟩) 12 2 = Rc2.put 2 sectors := by
    rw [ht, ← List.append_assoc]
    exact cut_append _ _ _ _ _ (by simp only [List.length_append]; omega) p2
  have c3 : cut (text ⟨gen, sectors, size, spans⟩) 14 4 = Rc2.put 4 size := by
    rw [ht, ← List.append_assoc, ← List.append_assoc]
    exact cut_append _ _ _ _ _ (by simp only [List.length_append]; omega) p3
  have c4 : cut (text ⟨gen, sectors, size, spans⟩) 18 1 = Rc2.put 1 spans.length := by
    rw [ht, ← List.append_assoc, ← List.append_assoc, ← List.append_assoc]
    exact cut_append _ _ _ _ _ (by simp only [List.length_append]; omega) p4
  have hm : many (text ⟨gen, sectors, size, spans⟩) = spans.length := by
    rw [many, c4, say_put_lt 1 _ (by omega)]
  have hr : readSpans (text ⟨gen, sectors, size, spans⟩) spans.length = spans := by
    rw [ht, ← List.append_assoc, ← List.append_assoc, ← List.append_assoc, ← List.append_assoc, readSpans_app _ (by simp only [List.length_append]; omega) spans Z (fun s hs => by have := fit s hs; omega) _ (Nat.le_refl _), List.take_length]
  refine ⟨?_, hm⟩
  rw [unhead, hm, hr, c1, c2, c3, say_put_lt 8 _ (by omega), say_put_lt 2 _ (by omega), say_put_lt 4 _ (by omega)]

theorem text_inj {h h' : Hd} (k : h.Ok) (k' : h'.Ok) (e : text h = text h') : h = h' := by
  rw [← (unhead_text k).1, ← (unhead_text k').1, e]

end Go.Rc6
