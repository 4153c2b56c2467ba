/-
  Directories as mathematics: files, their bytes, which rows of files are directories, and what is told of them. No program is named here. Conditions: none.
  Rows of files, of texts and of rows of spans in memory: what their cells hold; files that a call has made, with their spans. Conditions: none.
  'append' of spans that lie anywhere to a row of the call's own. Conditions: as each theorem states them.
  What a file tells of itself: its name, its spans, itself with spans of its own. Conditions: the file's spans are read where they lie, and take at most 2^47 bytes.
  What each file tells, gathered: its name; its spans; itself with spans of its own. Conditions: as each theorem states them.
-/
import Derived.Test.YteellffkjjllgaaK1
import Derived.Test.YteellffkjjllgaaK2
import Derived.Test.YteellffkjjllgaaK3
import Derived.Test.YteellffkjjllgaaK4
import Derived.Test.YteellffkjjllgaaK5
import Derived.Sort.Walk0
import Derived.Laws.OwnMore
import Derived.Lib.LazyBuf
import Derived.OwnWalk
namespace Go.Rc7
open Go.Rc5 Go.Rc6

structure Fl where
  name : ByteArray
  size : Int
  spans : List SpI

instance : Inhabited Fl := ⟨⟨.empty, 0, []⟩⟩

/-! ### Names, by their bytes -/

def lt (a b : ByteArray) : Bool := Op.bytesLess a.toList b.toList

theorem name_ext {a b : ByteArray} (h : a.toList = b.toList) : a = b := by
  rw [ByteArray.toList_eq, ByteArray.toList_eq] at h
  exact ByteArray.ext (Array.toList_inj.1 h)

theorem lt_eq (a b : ByteArray) : lt a b = decide (a.toList < b.toList) := Proofs.bytesLess_eq _ _

theorem lt_irrefl (a : ByteArray) : lt a a = false := by
  rw [lt_eq, decide_eq_false_iff_not]
  exact List.lt_irrefl _

theorem lt_trans {a b c : ByteArray} (h : lt a b = true) (k : lt b c = true) : lt a c = true := by
  rw [lt_eq, decide_eq_true_eq] at *
  exact List.lt_trans h k

theorem lt_tri {a b : ByteArray} (h : lt a b = false) (hne : a ≠ b) : lt b a = true := by
  rw [lt_eq, decide_eq_false_iff_not] at h
  rw [lt_eq, decide_eq_true_eq]
  rcases List.le_iff_lt_or_eq.1 (List.not_lt.1 h) with h | h
  · exact h
  · exact absurd (name_ext h.symm) hne

theorem lt_ne {a b : ByteArray} (h : lt a b = true) : a ≠ b := by
  rintro rfl
  rw [lt_irrefl] at h
  cases h

theorem lt_asymm {a b : ByteArray} (h : lt a b = true) : lt b a = false := by
  cases k : lt b a with
  | false => rfl
  | true =>
    have := lt_trans h k
    rw [lt_irrefl] at this
    cases this

/-- Names in their order, each once. -/
def Rises (l : List ByteArray) : Prop := l.Pairwise fun a b => lt a b = true

theorem eq_beq (a b : ByteArray) : (a.toList == b.toList) = decide (a = b) := by
  rw [Bool.eq_iff_iff, beq_iff_eq, decide_eq_true_eq]
  exact ⟨name_ext, fun h => h ▸ rfl⟩

/-- Not as far, and not the same: below. -/
theorem leq_iff (a b : ByteArray) : (Op.bytesLess b.toList a.toList || b.toList == a.toList) = !lt a b := by
  show (lt b a || b.toList == a.toList) = _
  rw [eq_beq]
  cases h : lt a b with
  | true => simp [lt_asymm h, (lt_ne h).symm]
  | false =>
    by_cases e : b = a
    · simp [e]
    · simp [lt_tri h (fun h => e h.symm)]

theorem rises_take {l : List ByteArray} {k : Nat} (hk : k < l.length) (h0 : 0 < k) (h : Rises (l.take k)) (hs : lt (l.getD (k - 1) .empty) (l.getD k .empty) = true) : Rises (l.take (k + 1)) := by
  unfold Rises at *
  rw [take_snoc l k .empty hk, List.pairwise_append]
  refine ⟨h, List.pairwise_singleton _ _, fun a ha b hb => ?_⟩
  rw [List.mem_singleton] at hb
  subst hb
  rw [List.mem_iff_getElem] at ha
  obtain ⟨i, hi, rfl⟩ := ha
  have hik : i < k := by rw [List.length_take] at hi; omega
  by_cases e : i = k - 1
  · subst e
    rw [List.getElem_take]
    simpa [List.getD_eq_getElem?_getD, show k - 1 < l.length by omega] using hs
  · have h1 := List.pairwise_iff_getElem.1 h i (k - 1) hi (by rw [List.length_take]; omega) (by omega)
    rw [List.getElem_take, List.getElem_take] at h1
    rw [List.getElem_take]
    refine lt_trans h1 ?_
    simpa [List.getD_eq_getElem?_getD, show k - 1 < l.length by omega] using hs

theorem rises_not {l : List ByteArray} {k : Nat} (hk : k < l.length) (h0 : 0 < k) (hs : lt (l.getD (k - 1) .empty) (l.getD k .empty) = false) : ¬ Rises l := by
  intro h
  have h1 := List.pairwise_iff_getElem.1 h (k - 1) k (by omega) hk (by omega)
  have e : lt (l.getD (k - 1) .empty) (l.getD k .empty) = lt l[k - 1] l[k] := by
    simp [List.getD_eq_getElem?_getD, show k - 1 < l.length by omega, hk]
  rw [e, h1] at hs
  cases hs

theorem rises_one {l : List ByteArray} {k : Nat} (hk : k ≤ 1) : Rises (l.take k) := by
  unfold Rises
  rcases l with _ | ⟨x, r⟩
  · simp
  · rcases k with _ | _ | k
    · simp
    · simp
    · omega

/-! ### A name's bytes -/

theorem dec_four (l : List UInt8) (h : l ≠ []) : (Rc1.dec l).2 ≤ 4 := (Rc1.dec_facts l h).2.1

theorem cut_four : ∀ l, l.length ≤ 4 * (Rc1.cut l).length := by
  refine Rc1.cut_ind (by simp [Rc1.cut_nil]) fun l hne ih => ?_
  rw [Rc1.cut_cons l hne, List.length_cons]
  rw [List.length_drop] at ih
  have := dec_four l hne
  omega

theorem name_len {l : List UInt8} (h : Rc1.right l = true) : l.length ≤ 96 ∧ 0 < l.length := by
  unfold Rc1.right at h
  simp only [Bool.and_eq_true, decide_eq_true_eq] at h
  have h1 := cut_four l
  have h2 : (Rc1.cut l).length ≤ 24 := h.1.1.1.2
  have h3 : 1 ≤ (Rc1.cut l).length := h.1.1.1.1
  refine ⟨by omega, ?_⟩
  rcases l with _ | ⟨x, r⟩
  · simp [Rc1.cut_nil] at h3
  · simp

/-! ### Files that are well -/

structure Well (f : Fl) : Prop where
  name : Rc1.right f.name.data.toList = true
  lo : 0 ≤ f.size
  hi : f.size ≤ 20000
  many : f.spans.length ≤ 200
  row : ∃ N : List Sp, f.spans = castS N ∧ Ch 0 N ∧ (∀ s ∈ N, 1 ≤ s.2 ∧ s.1 + s.2 ≤ 8192) ∧ total N = need f.size.toNat

structure Dir (L : List Fl) : Prop where
  many : L.length ≤ 120
  rises : Rises (L.map (·.name))
  well : ∀ f ∈ L, Well f

theorem Well.name_le {f : Fl} (h : Well f) : f.name.size ≤ 96 := by
  have := (name_len h.name).1
  simpa using this

theorem Well.span {f : Fl} (h : Well f) : ∀ s ∈ f.spans, 0 ≤ s.1 ∧ s.1 < 65536 ∧ 0 ≤ s.2 ∧ s.2 < 65536 := by
  obtain ⟨N, hN, _, hs, _⟩ := h.row
  intro s hm
  rw [hN] at hm
  simp only [castS, List.mem_map] at hm
  obtain ⟨t, ht, rfl⟩ := hm
  have := hs t ht
  exact ⟨by show 0 ≤ (t.1 : Int); omega, by show (t.1 : Int) < 65536; omega, by show 0 ≤ (t.2 : Int); omega, by show (t.2 : Int) < 65536; omega⟩

/-! ### Bytes -/

def spanT (s : SpI) : List UInt8 := Rc2.put 2 s.1.toNat ++ Rc2.put 2 s.2.toNat
def spansT (l : List SpI) : List UInt8 := l.flatMap spanT
def headT (f : Fl) : List UInt8 := Rc2.put 1 f.name.size ++ (f.name.data.toList ++ (Rc2.put 4 f.size.toNat ++ Rc2.put 1 f.spans.length))
def textT (f : Fl) : List UInt8 := headT f ++ spansT f.spans
def filesT (L : List Fl) : List UInt8 := L.flatMap textT
def bodyT (L : List Fl) : List UInt8 := Rc2.put 1 L.length ++ filesT L

theorem spansT_cons (s : SpI) (l : List SpI) : spansT (s :: l) = spanT s ++ spansT l := rfl
theorem filesT_cons (f : Fl) (l : List Fl) : filesT (f :: l) = textT f ++ filesT l := rfl

theorem spanT_length (s : SpI) : (spanT s).length = 4 := by simp [spanT, Rc2.put_length]

theorem spansT_length (l : List SpI) : (spansT l).length = 4 * l.length := by
  induction l with
  | nil => rfl
  | cons s r ih => rw [spansT_cons, List.length_append, spanT_length, ih, List.length_cons]; omega

theorem spansT_snoc (l : List SpI) (s : SpI) : spansT (l ++ [s]) = spansT l ++ spanT s := by simp [spansT]
theorem filesT_snoc (l : List Fl) (f : Fl) : filesT (l ++ [f]) = filesT l ++ textT f := by simp [filesT]

theorem headT_length (f : Fl) : (headT f).length = 6 + f.name.size := by
  simp [headT, Rc2.put_length]
  omega

theorem textT_length (f : Fl) : (textT f).length = 6 + f.name.size + 4 * f.spans.length := by
  rw [textT, List.length_append, headT_length, spansT_length]

theorem Well.text_le {f : Fl} (h : Well f) : (textT f).length ≤ 902 := by
  have h1 := h.name_le
  have h2 := h.many
  rw [textT_length]
  omega

theorem filesT_le {L : List Fl} (h : ∀ f ∈ L, Well f) : (filesT L).length ≤ 902 * L.length := by
  induction L with
  | nil => simp [filesT]
  | cons f r ih =>
    have h1 := (h f List.mem_cons_self).text_le
    have h2 := ih (fun g hg => h g (List.mem_cons_of_mem _ hg))
    rw [filesT_cons, List.length_append, List.length_cons]
    omega

theorem Dir.body_le {L : List Fl} (h : Dir L) : (bodyT L).length ≤ 108241 := by
  have h1 := filesT_le h.well
  have h2 := h.many
  rw [bodyT, List.length_append, Rc2.put_length]
  omega

theorem put_inj {k n m : Nat} {x y : List UInt8} (hn : n < 256 ^ k) (hm : m < 256 ^ k) (h : Rc2.put k n ++ x = Rc2.put k m ++ y) : n = m ∧ x = y := by
  obtain ⟨h1, h2⟩ := List.append_inj h (by rw [Rc2.put_length, Rc2.put_length])
  refine ⟨?_, h2⟩
  rw [← say_put_lt k n hn, h1, say_put_lt k m hm]

theorem spansT_inj {l m : List SpI} {x y : List UInt8} (hl : ∀ s ∈ l, 0 ≤ s.1 ∧ s.1 < 65536 ∧ 0 ≤ s.2 ∧ s.2 < 65536) (hm : ∀ s ∈ m, 0 ≤ s.1 ∧ s.1 < 65536 ∧ 0 ≤ s.2 ∧ s.2 < 65536) (hlen : l.length = m.length) (h : spansT l ++ x = spansT m ++ y) : l = m ∧ x = y := by
  induction l generalizing m with
  | nil =>
    rcases m with _ | ⟨t, q⟩
    · exact ⟨rfl, h⟩
    · simp at hlen
  | cons s r ih =>
    rcases m with _ | ⟨t, q⟩
    · simp at hlen
    · have hs := hl s List.mem_cons_self
      have ht := hm t List.mem_cons_self
      rw [spansT_cons, spansT_cons, spanT, spanT] at h
      simp only [List.append_assoc] at h
      obtain ⟨e1, h⟩ := put_inj (by omega) (by omega) h
      obtain ⟨e2, h⟩ := put_inj (by omega) (by omega) h
      obtain ⟨e3, h⟩ := ih (fun u hu => hl u (List.mem_cons_of_mem _ hu)) (fun u hu => hm u (List.mem_cons_of_mem _ hu)) (by simpa using hlen) h
      have e : s = t := Prod.ext (by omega) (by omega)
      exact ⟨by rw [e, e3], h⟩

theorem text_inj {f g : Fl} (hf : Well f) (hg : Well g) {x y : List UInt8} (h : textT f ++ x = textT g ++ y) : f = g ∧ x = y := by
  have h1 := hf.name_le
  have h2 := hg.name_le
  have h3 := hf.many
  have h4 := hg.many
  have h5 := hf.lo
  have h6 := hg.lo
  have h7 := hf.hi
  have h8 := hg.hi
  unfold textT headT at h
  simp only [List.append_assoc] at h
  obtain ⟨e1, h⟩ := put_inj (by omega) (by omega) h
  obtain ⟨e2, h⟩ := List.append_inj h (by simpa using e1)
  obtain ⟨e3, h⟩ := put_inj (by omega) (by omega) h
  obtain ⟨e4, h⟩ := put_inj (by omega) (by omega) h
  obtain ⟨e5, h⟩ := spansT_inj hf.span hg.span e4 h
  refine ⟨?_, h⟩
  obtain ⟨n1, s1, p1⟩ := f
  obtain ⟨n2, s2, p2⟩ := g
  simp only at e2 e3 e5 h5 h6
  rw [show n1 = n2 from ByteArray.ext (Array.toList_inj.1 e2), show s1 = s2 by omega, e5]

theorem files_inj {L M : List Fl} (hL : ∀ f ∈ L, Well f) (hM : ∀ f ∈ M, Well f) (hlen : L.length = M.length) {x y : List UInt8} (h : filesT L ++ x = filesT M ++ y) : L = M ∧ x = y := by
  induction L generalizing M with
  | nil =>
    rcases M with _ | ⟨t, q⟩
    · exact ⟨rfl, h⟩
    · simp at hlen
  | cons s r ih =>
    rcases M with _ | ⟨t, q⟩
    · simp at hlen
    · rw [filesT_cons, filesT_cons] at h
      simp only [List.append_assoc] at h
      obtain ⟨e1, h⟩ := text_inj (hL s List.mem_cons_self) (hM t List.mem_cons_self) h
      obtain ⟨e3, h⟩ := ih (fun u hu => hL u (List.mem_cons_of_mem _ hu)) (fun u hu => hM u (List.mem_cons_of_mem _ hu)) (by simpa using hlen) h
      exact ⟨by rw [e1, e3], h⟩

theorem body_inj {L M : List Fl} (hL : Dir L) (hM : Dir M) {x y : List UInt8} (h : bodyT L ++ x = bodyT M ++ y) : L = M ∧ x = y := by
  have h1 := hL.many
  have h2 := hM.many
  unfold bodyT at h
  simp only [List.append_assoc] at h
  obtain ⟨e1, h⟩ := put_inj (by omega) (by omega) h
  exact files_inj hL.well hM.well e1 h

end Go.Rc7

namespace Go.Rc7
open Go.Rc5

/-- A row of texts, read. -/
def StrsAt (w : World) (a : Option Addr) (S : List ByteArray) : Prop := ∀ i, i < S.length → ∃ x, a = some x ∧ w.cell? (x.add i) = some (.string (S.getD i .empty))

/-- A row of rows of spans, read. -/
def RowsAt (w : World) (a : Option Addr) (R : List (List SpI)) : Prop :=
  ∀ i, i < R.length → ∃ x p c, a = some x ∧ w.cell? (x.add i) = some (.slice p (R.getD i []).length c) ∧ SpansAt w p (R.getD i [])

/-- A file, read. -/
def FileAt (w : World) (x : Addr) (f : Fl) : Prop :=
  w.cell? x = some (.string f.name) ∧ w.cell? ⟨x.block, x.off + 1, none⟩ = some (.int .i64 f.size) ∧ ∃ p c, w.cell? ⟨x.block, x.off + 2, none⟩ = some (.slice p f.spans.length c) ∧ SpansAt w p f.spans

/-- A row of files, read. -/
def FilesAt (w : World) (a : Option Addr) (L : List Fl) : Prop := ∀ i, i < L.length → ∃ x, a = some x ∧ FileAt w (x.add (i * 3)) (L.getD i default)

/-- A file with the place of its spans. -/
abbrev FR := Fl × Option Addr × Nat

def rowC (r : FR) : Value := .slice r.2.1 r.1.spans.length r.2.2
def fileC (r : FR) : List Value := [.string r.1.name, .int .i64 r.1.size, rowC r]
def filesC (R : List FR) : List Value := R.flatMap fileC

theorem filesC_cons (r : FR) (R : List FR) : filesC (r :: R) = fileC r ++ filesC R := rfl

theorem filesC_length (R : List FR) : (filesC R).length = R.length * 3 := by
  induction R with
  | nil => rfl
  | cons x r ih => rw [filesC_cons, List.length_append, ih, List.length_cons]; show 3 + _ = _; omega

theorem filesC_append (p q : List FR) : filesC (p ++ q) = filesC p ++ filesC q := by simp [filesC]

theorem filesC_snoc (p : List FR) (r : FR) : filesC (p ++ [r]) = filesC p ++ fileC r := by simp [filesC]

theorem fileC_one (r : FR) : ∀ u ∈ fileC r, u.oneCell' = true := by
  intro u hu
  simp only [fileC, rowC, List.mem_cons, List.not_mem_nil, or_false] at hu
  rcases hu with rfl | rfl | rfl <;> rfl

theorem filesC_one (R : List FR) : ∀ u ∈ filesC R, u.oneCell' = true := by
  intro u hu
  unfold filesC at hu
  rw [List.mem_flatMap] at hu
  obtain ⟨r, _, h⟩ := hu
  exact fileC_one r u h

theorem filesC_at (R : List FR) (i : Nat) (h : i < R.length) : (filesC R)[i * 3]? = some (.string (R.getD i default).1.name) ∧ (filesC R)[i * 3 + 1]? = some (.int .i64 (R.getD i default).1.size) ∧ (filesC R)[i * 3 + 2]? = some (rowC (R.getD i default)) := by
  induction R generalizing i with
  | nil => simp at h
  | cons x r ih =>
    cases i with
    | zero => simp [filesC_cons, fileC]
    | succ i =>
      have := ih i (by simpa using h)
      have e1 : (i + 1) * 3 = i * 3 + 1 + 1 + 1 := by omega
      rw [e1]
      simpa [filesC_cons, fileC] using this

theorem StrsAt.later {w w' : World} {a : Option Addr} {S : List ByteArray} (h : StrsAt w a S) (hk : ∀ x v, w.cell? x = some v → w'.cell? x = some v) : StrsAt w' a S := by
  intro i hi
  obtain ⟨x, hx, c0⟩ := h i hi
  exact ⟨x, hx, hk _ _ c0⟩

theorem RowsAt.later {w w' : World} {a : Option Addr} {R : List (List SpI)} (h : RowsAt w a R) (hk : ∀ x v, w.cell? x = some v → w'.cell? x = some v) : RowsAt w' a R := by
  intro i hi
  obtain ⟨x, p, c, hx, c0, hs⟩ := h i hi
  exact ⟨x, p, c, hx, hk _ _ c0, hs.later hk⟩

theorem FileAt.later {w w' : World} {x : Addr} {f : Fl} (h : FileAt w x f) (hk : ∀ x v, w.cell? x = some v → w'.cell? x = some v) : FileAt w' x f := by
  obtain ⟨h0, h1, p, c, h2, h3⟩ := h
  exact ⟨hk _ _ h0, hk _ _ h1, p, c, hk _ _ h2, h3.later hk⟩

theorem FilesAt.later {w w' : World} {a : Option Addr} {L : List Fl} (h : FilesAt w a L) (hk : ∀ x v, w.cell? x = some v → w'.cell? x = some v) : FilesAt w' a L := by
  intro i hi
  obtain ⟨x, hx, hf⟩ := h i hi
  exact ⟨x, hx, hf.later hk⟩

theorem getD_map {α β : Type} (f : α → β) (l : List α) (i : Nat) (d : α) (d' : β) (h : i < l.length) : (l.map f).getD i d' = f (l.getD i d) := by
  simp [List.getD_eq_getElem?_getD, h]

end Go.Rc7
namespace Go.Proofs.Yteellffkjjllgaa
open Go.ChangeShapes Go.WideShapes Go.ChangeAt Go.RowKit Go.Rc5 Go.Rc7 Go.Deep

section
variable {w w' : World} {a : Option Addr}

theorem keeps (hb : Below w.heap.size w w') : ∀ x v, w.cell? x = some v → w'.cell? x = some v := fun _ _ hc => (hb.cell (row_block hc)).trans hc

theorem StrsAt.below {S : List ByteArray} (h : StrsAt w a S) (hb : Below w.heap.size w w') : StrsAt w' a S := h.later (keeps hb)
theorem RowsAt.below {S : List (List SpI)} (h : RowsAt w a S) (hb : Below w.heap.size w w') : RowsAt w' a S := h.later (keeps hb)
theorem FileAt.below {x : Addr} {f : Fl} (h : FileAt w x f) (hb : Below w.heap.size w w') : FileAt w' x f := h.later (keeps hb)
theorem FilesAt.below {L : List Fl} (h : FilesAt w a L) (hb : Below w.heap.size w w') : FilesAt w' a L := h.later (keeps hb)

end

theorem strs_own {w : World} {base e n : Nat} {a : Option Addr} {c : Nat} {S : List ByteArray} (h : w.ownsRow base e 1 (.slice a n c) n (S.map .string)) : S.length = n ∧ StrsAt w a S := by
  have hl : S.length = n := by have := h.1; simpa using this
  refine ⟨hl, fun i hi => ?_⟩
  rcases h.2 with ⟨_, h0⟩ | ⟨g, cap, cur, hv, _⟩
  · omega
  · simp only [Value.slice.injEq] at hv
    obtain ⟨rfl, _, rfl⟩ := hv
    refine ⟨_, rfl, ?_⟩
    rw [add_own]
    exact (own_cell h (by simp [List.getElem?_map, List.getElem?_eq_getElem hi, List.getD_eq_getElem?_getD])).1

theorem rows_own {w : World} {base e n : Nat} {a : Option Addr} {c : Nat} {R : List FR} (h : w.ownsRow base e 1 (.slice a n c) n (R.map rowC)) (hs : ∀ r ∈ R, SpansAt w r.2.1 r.1.spans) : R.length = n ∧ RowsAt w a (R.map fun r => r.1.spans) := by
  have hl : R.length = n := by have := h.1; simpa using this
  refine ⟨hl, fun i hi => ?_⟩
  rw [List.length_map] at hi
  rcases h.2 with ⟨_, h0⟩ | ⟨g, cap, cur, hv, _⟩
  · omega
  · simp only [Value.slice.injEq] at hv
    obtain ⟨rfl, _, rfl⟩ := hv
    have hm : R.getD i default ∈ R := by
      rw [List.getD_eq_getElem?_getD, List.getElem?_eq_getElem hi]
      exact List.getElem_mem hi
    rw [getD_map (fun r : FR => r.1.spans) R i default [] hi]
    refine ⟨_, (R.getD i default).2.1, (R.getD i default).2.2, rfl, ?_, hs _ hm⟩
    rw [add_own]
    exact (own_cell h (u := rowC (R.getD i default)) (by simp [List.getElem?_map, List.getElem?_eq_getElem hi, List.getD_eq_getElem?_getD])).1

theorem files_own {w : World} {base e n : Nat} {a : Option Addr} {c : Nat} {K : List FR} {rest : List Value} (h : w.ownsRow base e 3 (.slice a n c) n (filesC K ++ rest)) (hs : ∀ r ∈ K, SpansAt w r.2.1 r.1.spans) : FilesAt w a (K.map (·.1)) := by
  intro i hi
  rw [List.length_map] at hi
  have hl := h.1
  rw [List.length_append, filesC_length] at hl
  rcases h.2 with ⟨_, h0⟩ | ⟨g, cap, cur, hv, _⟩
  · omega
  · simp only [Value.slice.injEq] at hv
    obtain ⟨rfl, _, rfl⟩ := hv
    have hm : K.getD i default ∈ K := by
      rw [List.getD_eq_getElem?_getD, List.getElem?_eq_getElem hi]
      exact List.getElem_mem hi
    obtain ⟨h0, h1, h2⟩ := filesC_at K i hi
    have hlt := filesC_length K
    have put : ∀ {j : Nat} {u : Value}, (filesC K)[j]? = some u → (filesC K ++ rest)[j]? = some u := fun {j u} hj => by
      rw [List.getElem?_append_left (List.getElem?_eq_some_iff.1 hj).1]
      exact hj
    rw [getD_map (fun r : FR => r.1) K i default default hi]
    refine ⟨_, rfl, ?_, ?_, (K.getD i default).2.1, (K.getD i default).2.2, ?_, hs _ hm⟩
    · rw [add_own]
      exact (own_cell h (put h0)).1
    · rw [add_own]
      exact (own_cell h (put h1)).1
    · rw [add_own]
      exact (own_cell h (put h2)).1

/-- The spans of files that a call has made. -/
def deepT (R : List FR) : Thing 0 where
  holds O w := (∀ r ∈ R, SpansAt w r.2.1 r.1.spans ∧ (r.1.spans ≠ [] → ∀ x, r.2.1 = some x → O x.block)) ∧ ∀ k, O k → k < w.heap.size
  lt := by
    rintro O w ⟨_, h⟩ k hk
    exact ⟨Nat.zero_le _, h k hk⟩
  keep := by
    rintro O w w' ⟨h1, h2⟩ hk
    have hlt : ∀ k, O k → k < w'.heap.size := fun k hO => by
      have := h2 k hO
      by_cases h : k < w'.heap.size
      · exact h
      · have e := hk k hO
        rw [Array.getElem?_eq_none (by omega), Array.getElem?_eq_getElem this] at e
        cases e
    refine ⟨fun r hr => ⟨?_, (h1 r hr).2⟩, hlt⟩
    intro i hi
    obtain ⟨x, hx, c0, c1⟩ := (h1 r hr).1 i hi
    have hO := (h1 r hr).2 (by rintro e; rw [e] at hi; simp at hi) x hx
    have hb : ∀ y : Addr, y.block = x.block → w'.cell? y = w.cell? y := fun y hy => by
      unfold World.cell?
      rw [hy, hk _ hO]
    exact ⟨x, hx, (hb _ (add_block x _)).trans c0, (hb ⟨(x.add (i * 2)).block, (x.add (i * 2)).off + 1, none⟩ (add_block x _)).trans c1⟩

section
variable {U : Nat → Prop} {w0 w w' : World} {l : List (Thing 0)}

/-- Two things become one. -/
theorem Crew.join {s t u : Thing 0} (h : Crew U w0 (l ++ [t]) w) (i : Nat) (hi : l[i]? = some s) (hu : ∀ O O2, s.holds O w → t.holds O2 w → u.holds (fun k => O k ∨ O2 k) w) : Crew U w0 (l.set i u) w := by
  obtain ⟨h1, Os, h2, h3⟩ := h
  have hil : i < l.length := (List.getElem?_eq_some_iff.1 hi).1
  have hii : (l ++ [t])[i]? = some s := by rw [List.getElem?_append_left hil]; exact hi
  have hll : (l ++ [t])[l.length]? = some t := by simp
  refine ⟨h1, fun j k => if j = i then Os i k ∨ Os l.length k else Os j k, fun j v hv => ?_, fun j j' hj hj' hne k hk hk' => ?_⟩
  · by_cases e : j = i
    · subst e
      rw [List.getElem?_set_self hil] at hv
      cases hv
      simp only [if_true]
      exact ⟨hu _ _ (h2 _ _ hii).1 (h2 _ _ hll).1, fun k hk => hk.elim ((h2 _ _ hii).2 k) ((h2 _ _ hll).2 k)⟩
    · rw [List.getElem?_set_ne (fun h => e h.symm)] at hv
      simp only [e, if_false]
      exact h2 j v (by rw [List.getElem?_append_left (List.getElem?_eq_some_iff.1 hv).1]; exact hv)
  · simp only [List.length_set] at hj hj'
    have big : ∀ i, i < l.length → i < (l ++ [t]).length := fun i hi => by simp; omega
    have last : l.length < (l ++ [t]).length := by simp
    by_cases e : j = i
    · subst e
      have e' : j' ≠ j := fun h => hne h.symm
      simp only [if_true, e', if_false] at hk hk'
      rcases hk with hk | hk
      · exact h3 _ _ (big _ hj) (big _ hj') hne k hk hk'
      · exact h3 _ _ last (big _ hj') (by omega) k hk hk'
    · by_cases e' : j' = i
      · subst e'
        simp only [if_true, e, if_false] at hk hk'
        rcases hk' with hk' | hk'
        · exact h3 _ _ (big _ hj) (big _ hj') hne k hk hk'
        · exact h3 _ _ (big _ hj) last (by omega) k hk hk'
      · simp only [e, e', if_false] at hk hk'
        exact h3 _ _ (big _ hj) (big _ hj') hne k hk hk'

theorem Crew.deep (h : Crew U w0 l w) : Crew U w0 (l ++ [deepT []]) w :=
  h.more (t := deepT []) ⟨fun _ => False, ⟨fun r hr => (by cases hr), fun _ hk => hk.elim⟩, Below.refl _ _, fun _ hk => hk.elim⟩

/-- One file more. -/
theorem Crew.deeper {R : List FR} {r : FR} (h : Crew U w0 l w) (i : Nat) (hi : l[i]? = some (deepT R)) (hf : Fresh (spT (rowC r) r.1.spans) w w') : Crew U w0 (l.set i (deepT (R ++ [r]))) w' := by
  refine (h.more hf).join i hi ?_
  rintro O O2 ⟨h1, h2⟩ ⟨ho, rfl⟩
  have hs := (spans_own (show w'.ownsRow 0 _ 2 (.slice r.2.1 r.1.spans.length r.2.2) r.1.spans.length (flatI r.1.spans) from ho)).2
  refine ⟨fun q hq => ?_, fun k hk => hk.elim (h2 k) (fun hk => ?_)⟩
  · rw [List.mem_append, List.mem_singleton] at hq
    rcases hq with hq | rfl
    · exact ⟨(h1 q hq).1, fun hne x hx => .inl ((h1 q hq).2 hne x hx)⟩
    · refine ⟨hs, fun hne x hx => .inr ?_⟩
      show (rowC q).ownBlock = some x.block
      rcases ho.2 with ⟨_, h0⟩ | ⟨g, cap, cur, hv, _⟩
      · exact absurd (List.length_eq_zero_iff.1 h0) hne
      · rw [rowC, Value.slice.injEq] at hv
        rw [hx] at hv
        obtain ⟨hv, _⟩ := hv
        cases hv
        rw [rowC, hx]
        rfl
  · exact (ho.lt k hk).2

theorem Crew.spans {R : List FR} (h : Crew U w0 l w) (i : Nat) (hi : l[i]? = some (deepT R)) : ∀ r ∈ R, SpansAt w r.2.1 r.1.spans := by
  obtain ⟨O, ⟨ho, _⟩, _⟩ := h.one hi
  exact fun r hr => (ho r hr).1

end

end Go.Proofs.Yteellffkjjllgaa

namespace Go.Rc5

end Go.Rc5
namespace Go.Proofs.Yteellffkjjllgaa
open Go.RowKit Go.Rc5

theorem spans_news {w : World} {ad : Addr} {L : List SpI} (h : SpansAt w (some ad) L) : ∀ j u, (flatI L)[j]? = some u → w.cell? (ad.add j) = some u := by
  intro j u hu
  have hj : j < L.length * 2 := by
    have := (List.getElem?_eq_some_iff.1 hu).1
    rw [flatI_length] at this
    exact this
  obtain ⟨i, hi⟩ : ∃ i, j = i * 2 ∨ j = i * 2 + 1 := ⟨j / 2, by omega⟩
  have hil : i < L.length := by omega
  obtain ⟨x, ex, c0, c1⟩ := h i hil
  cases ex
  obtain ⟨f0, f1⟩ := flatI_at L i hil
  rcases hi with rfl | rfl
  · rw [hu] at f0
    rw [c0, f0]
  · rw [hu] at f1
    rw [show i * 2 + 1 = i * 2 + (0 + 1) from rfl, add_spelt, c1, f1]

theorem run_append_noneC {P : Program} {w : World} (base : Nat) (t ty e : TypeId) (i : TypeInfo) (size c : Nat) (ht : P.underlying t = some (.slice e)) (hi : P.info? e = some i)
    (v : Value) (n : Nat) (xs : List Value) (hown : w.ownsRow base e size v n xs) :
    (Builtin.append_ #[t, t] ty #[v, .slice none 0 c]).run P w = .ok v w := by
  rcases hown.2 with ⟨rfl, rfl⟩ | ⟨g, cap, cur, rfl, _, _, hnc, _⟩
  · simp [Builtin.append_, run_underlying ht, sizeOf, typeInfo, hi, Builtin.lenOf, Builtin.firstCells]
  · simp [Builtin.append_, run_underlying ht, sizeOf, typeInfo, hi, Builtin.lenOf, Builtin.firstCells, hnc, storeCells]

/-- 'append' of spans that lie anywhere to a row of the call's own. -/
theorem wpList_append_spans {U : Nat → Prop} {w0 w : World} {l : List (Thing 0)} {ops : Array Oper} {rest : List Oper} {o : Oper} {a : Act} {Q : Exit → Act → World → Prop} {M L : List SpI} (h : Crew U w0 l w) (i : Nat) {v : Value} (hi : l[i]? = some (spT v M)) (hgd : o.guard = none) (s x : Operand)
    (ho : o.op = .call { callee := .builtin .append, args := #[s, x], argTypes := #[33, 33] }) (hs : a.eval s = v) (ao : Option Addr) (m c : Nat) (hx : a.eval x = .slice ao m c) (hsp : SpansAt w ao L) (hl : L.length = m) (hb : M.length + m ≤ 8796093022208)
    (hK : ∀ v' w', Crew U w0 (l.set i (spT v' (M ++ L))) w' → wpList Try.prog ops Q rest (a.put o.dst v') w') : wpList Try.prog ops Q (o :: rest) a w := by
  cases ao with
  | none =>
    have hL : L = [] := by
      cases L with
      | nil => rfl
      | cons y r => obtain ⟨z, hz, _⟩ := hsp 0 (by simp); cases hz
    subst hL
    obtain rfl : m = 0 := by simpa using hl.symm
    obtain ⟨i0, hi0, _⟩ := info_parts infoP
    have hr := run_append_noneC (P := Try.prog) (w := w) 0 33 o.type 59 i0 2 c Try.underlying33 hi0 v M.length (flatI M) (h.own i hi)
    refine wpList_plain hgd fun K hK' => ?_
    unfold Oper.wp execOp
    simp only [ho, resolve, invoke, builtin, Sem.run_bind, Sem.run_pure, Result.andThen_ok, List.map_toArray, List.map_cons, List.map_nil, hs, hx, hr]
    refine hK' _ _ (hK v w ?_)
    rw [List.append_nil]
    have e : l.set i (spT v M) = l := by
      apply List.ext_getElem?
      intro j
      rw [List.getElem?_set]
      by_cases e : i = j
      · subst e
        rw [if_pos rfl, if_pos (List.getElem?_eq_some_iff.1 hi).1, hi]
      · rw [if_neg e]
    rw [e]
    exact h
  | some ad =>
    refine wpList_append_crew h i hi hgd s x 33 ho (.agg #[.int .i64 0, .int .i64 0]) 16 Try.underlying33 infoP rfl (by decide) hs ad m c (flatI L) hx (by rw [flatI_length, hl]) (spans_news hsp) (flatI_one L) (by unfold maxLen; omega) (by omega) ?_
    intro v' w' hc
    refine hK v' w' ?_
    rw [← flatI_append] at hc
    show Crew U w0 (l.set i (rowT 0 59 2 v' (M ++ L).length (flatI (M ++ L)))) w'
    rw [List.length_append, hl]
    exact hc

theorem own_none {w : World} {base e z n c : Nat} {xs : List Value} {a : Option Addr} (h : w.ownsRow base e z (.slice a n c) n xs) : a = none → c = 0 := by
  rintro rfl
  rcases h.2 with ⟨e, _⟩ | ⟨g, cap, cur, e, _⟩
  · cases e
    rfl
  · cases e

end Go.Proofs.Yteellffkjjllgaa

namespace Go.Proofs.Yteellffkjjllgaa
open Go.RowKit Go.Rc5 Go.Rc7

set_option maxHeartbeats 1000000 in
theorem name_any (s : ByteArray) (z : Int) (v : Value) (w : World) :
    Calls Try.prog 38 #[.agg #[.string s, .int .i64 z, v]] w fun e w' => e = .returned (.string s) ∧ Below w.heap.size w w' := by
  have HB := Lib.hid ((Crew.start w).block #[.string s, .int .i64 z, v] 35).bel
  go_enter Try.func38, Try.ntmps38
  go_wp2
  go_ret
  exact ⟨rfl, HB.out⟩

set_option maxHeartbeats 1000000 in
theorem spans_any (s : ByteArray) (z : Int) (v : Value) (w : World) :
    Calls Try.prog 52 #[.agg #[.string s, .int .i64 z, v]] w fun e w' => e = .returned v ∧ Below w.heap.size w w' := by
  have HB := Lib.hid ((Crew.start w).block #[.string s, .int .i64 z, v] 35).bel
  go_enter Try.func52, Try.ntmps52
  go_wp2
  go_ret
  exact ⟨rfl, HB.out⟩

set_option maxRecDepth 100000 in
set_option maxHeartbeats 2000000 in
theorem Clone_any (S : List SpI) (p : Option Addr) (n c : Nat) (w : World) (h : SpansAt w p S) (hl : S.length = n) (hb : n ≤ 8796093022208) :
    Calls Try.prog 62 #[.slice p n c] w fun e w' => ∃ p' c', e = .returned (.slice p' n c') ∧ Fresh (spT (.slice p' n c') S) w w' := by
  subst hl
  have q22 : ∀ (w : World) (a : Option Addr) (n c : Nat), (binOp .eql 33 (.slice a n c) (.slice none 0 0)).run Try.prog w = .ok (.bool a.isNone) w := fun w a n c => Lib.run_eql_slice_nil (P := Try.prog) (h := Try.underlying33) w _ _ a n c 0 0
  cases p with
  | none =>
    have hS : S = [] := by
      cases S with
      | nil => rfl
      | cons y r => obtain ⟨z, hz, _⟩ := h 0 (by simp); cases hz
    subst hS
    have HF := Lib.hid ((Crew.start w).nil 59 2).fresh
    clear h hb
    go_enter Try.func62, Try.ntmps62
    go_wp2
    go_ret
    exact ⟨none, 0, rfl, HF.out⟩
  | some x =>
    have HC := Lib.hid ((Crew.start w).empty 59 2)
    have HS := Lib.hid (SpansAt.below h HC.out.bel)
    have HBd := Lib.hid hb
    clear h hb
    go_enter Try.func62, Try.ntmps62
    go_wp2_with (at_builtin; refine wpList_append_spans (M := []) (L := S) HC.out 0 rfl rfl (.tmp 5) (.tmp 6) rfl rfl (some x) S.length c rfl HS.out rfl (by have := HBd.out; simp; omega) ?nx)
    case nx =>
      intro v' w2 hc
      have HC2 : Hid (Crew (fun _ => False) w [spT v' S] w2) := by
        unfold Hid
        simpa using hc
      obtain ⟨p', c', rfl⟩ := HC2.out.slice 0 rfl
      clear hc HC
      go_wp2
      go_ret
      exact ⟨p', c', rfl, HC2.out.fresh⟩

set_option maxRecDepth 100000 in
set_option maxHeartbeats 2000000 in
theorem copied_any (f : Fl) (p : Option Addr) (c : Nat) (w : World) (h : SpansAt w p f.spans) (hb : f.spans.length ≤ 8796093022208) :
    Calls Try.prog 39 #[.agg #[.string f.name, .int .i64 f.size, .slice p f.spans.length c]] w fun e w' => ∃ p' c', e = .returned (.agg #[.string f.name, .int .i64 f.size, .slice p' f.spans.length c']) ∧ Fresh (spT (.slice p' f.spans.length c') f.spans) w w' := by
  have H0 := ((Crew.start w).block #[.string f.name, .int .i64 f.size, .slice p f.spans.length c] 35).block #[.string ⟨#[]⟩, .int .i64 0, .slice none 0 0] 35
  rw [World.size_alloc] at H0
  have HC := Lib.hid H0
  have HCl := Lib.hid (Clone_any f.spans p f.spans.length c _ (SpansAt.below h H0.bel) rfl hb)
  obtain ⟨nm, z, S⟩ := f
  clear h hb H0
  dsimp only at *
  go_enter Try.func39, Try.ntmps39
  go_wp2_with fail
  refine HCl.out.mono ?_
  rintro e w1 ⟨p', c', rfl, hf⟩
  have C1 := HC.out.more hf
  simp only [List.cons_append, List.nil_append] at C1
  have a0 := (C1.at 0 rfl (j := 0) rfl)
  have a1 := (C1.at 0 rfl (j := 1) rfl)
  have a2 := (C1.at 0 rfl (j := 2) rfl)
  have b0 := (C1.at 1 rfl (j := 0) rfl)
  have b1 := (C1.at 1 rfl (j := 1) rfl)
  have b2 := (C1.at 1 rfl (j := 2) rfl)
  have C2 := C1.set 0 rfl 2 (.slice p' S.length c')
  have C3 := ((C2.set 1 rfl 0 (.string nm)).set 1 rfl 1 (.int .i64 z)).set 1 rfl 2 (.slice p' S.length c')
  obtain ⟨O, ⟨hblk, _⟩, _⟩ := C3.one (i := 1) rfl
  have HBLK := Lib.hid hblk
  have HF := Lib.hid ((C3.pick [2] (by decide) rfl).fresh)
  clear C1 C2 C3 HC HCl hf hblk
  go_wp2
  refine bodyPost_ret (results_cell_row rfl _ _ (w.heap.size + 1) 35 _ (0, 0) _ rfl HBLK.out Try.underlying35 rfl (by kernel_rfl)) rfl ?_
  exact ⟨p', c', rfl, HF.out⟩

end Go.Proofs.Yteellffkjjllgaa

namespace Go.Proofs.Yteellffkjjllgaa
open Go.RowKit Go.Rc5 Go.Rc7

theorem infoS : (Try.prog.info? 9).map (fun i => (i.zero, i.size, i.bytes)) = some (some (.string ⟨#[]⟩), 1, 16) := by kernel_rfl
theorem infoRow : (Try.prog.info? 33).map (fun i => (i.zero, i.size, i.bytes)) = some (some (.slice none 0 0), 1, 24) := by kernel_rfl
theorem infoF : (Try.prog.info? 35).map (fun i => (i.zero, i.size, i.bytes)) = some (some (.agg #[.string ⟨#[]⟩, .int .i64 0, .slice none 0 0]), 3, 48) := by kernel_rfl
theorem infoBl : (Try.prog.info? 4).map (fun i => (i.zero, i.size, i.bytes)) = some (some (.bool false), 1, 1) := by kernel_rfl

/-- A row of texts is the answer. -/
def StrsBack (S : List ByteArray) (n : Nat) (w : World) (e : Ending) (w' : World) : Prop := ∃ a c, e = .returned (.slice a n c) ∧ StrsAt w' a S ∧ Below w.heap.size w w' ∧ ∀ x, a = some x → ∃ g, x = ⟨g, 0, none⟩ ∧ n ≤ c
def BoolsBack (S : List Bool) (n : Nat) (w : World) (e : Ending) (w' : World) : Prop := ∃ a c, e = .returned (.slice a n c) ∧ BoolsAt w' a S ∧ Below w.heap.size w w'
def RowsBack (S : List (List SpI)) (n : Nat) (w : World) (e : Ending) (w' : World) : Prop := ∃ a c, e = .returned (.slice a n c) ∧ RowsAt w' a S ∧ Below w.heap.size w w'
/-- New files, with spans of their own. -/
def FilesBack (L : List Fl) (w : World) (e : Ending) (w' : World) : Prop := ∃ v R, e = .returned v ∧ R.map (·.1) = L ∧ Crew (fun _ => False) w [rowT 0 35 3 v L.length (filesC R), deepT R] w'

theorem own_addr {w : World} {base e z n c : Nat} {a : Option Addr} {xs : List Value} (h : w.ownsRow base e z (.slice a n c) n xs) : ∀ x, a = some x → ∃ g, x = ⟨g, 0, none⟩ ∧ n ≤ c := by
  intro x hx
  rcases h.2 with ⟨e, _⟩ | ⟨g, cap, cur, e, _, _, hc, _⟩
  · cases e
    cases hx
  · cases e
    cases hx
    exact ⟨g, rfl, hc⟩

theorem fresh_made {w w' : World} {e z n : Nat} (h : w'.ownsRow 0 e z (.slice (some ⟨w.heap.size, 0, none⟩) 0 n) 0 []) (hg : w.grownBy w' none) : Fresh (rowT 0 e z (.slice (some ⟨w.heap.size, 0, none⟩) 0 n) 0 []) w w' :=
  ⟨_, ⟨h, rfl⟩, ((Moved.refl (fun _ => False) w).grown hg (fun k hk => by cases hk)).below (Nat.le_refl _) (fun _ hk => hk.elim), fun k hk => by simp [Value.ownBlock] at hk; omega⟩

theorem take_map {α β : Type} (f : α → β) (L : List α) (k : Nat) (d : α) (h : k < L.length) : (L.map f).take k ++ [f (L.getD k d)] = (L.map f).take (k + 1) := by
  rw [← List.map_take, ← List.map_take, take_snoc L k d h, List.map_append]
  rfl

theorem news_one (w : World) (v : Value) (t : Nat) : ∀ j x, [v][j]? = some x → (w.alloc (.cells #[v] t)).cell? ((⟨w.heap.size, 0, none⟩ : Addr).add j) = some x := by
  intro j x hx
  rw [add_own, World.cell?_alloc_new]
  simpa using hx

theorem news_three (w : World) (u v x : Value) (t : Nat) : ∀ j y, [u, v, x][j]? = some y → (w.alloc (.cells #[u, v, x] t)).cell? ((⟨w.heap.size, 0, none⟩ : Addr).add j) = some y := by
  intro j y hy
  rw [add_own, World.cell?_alloc_new]
  simpa using hy

set_option maxRecDepth 100000 in
set_option maxHeartbeats 4000000 in
theorem told_name (L : List Fl) (a : Option Addr) (n c : Nat) (w : World) (h : FilesAt w a L) (hl : L.length = n) (hn : n ≤ 1000) :
    Calls Try.prog 37 #[.slice a n c, .func (.func 38) #[] #[]] w (StrsBack (L.map (·.name)) n w) := by
  obtain ⟨i0, hi0, hz0, hz1, hz2⟩ := info_parts infoS
  have HF := Lib.hid (fun W (hb : Below w.heap.size w W) => FilesAt.below h hb)
  have HL := Lib.hid hl
  clear h hl
  go_enter Try.func37, Try.ntmps37
  go_wp2_with (at_make; refine wpList_make_own _ rfl _ _ 74 rfl 0 9 i0 (.string ⟨#[]⟩) 1 Try.underlying74 hi0 hz0 hz1 .i64 .i64 _ n rfl rfl rfl (by rw [hz2]; omega) (by unfold maxLen; omega) (Nat.zero_le _) ?mk)
  case mk =>
    intro w1 ho hg
    have HC := Lib.hid ((Crew.start w).more (fresh_made ho hg))
    clear ho hg
    go_wp2
    go_loopw [5, 13] (fun v i wr => ∃ (k : Nat), i = .int .i64 k ∧ k ≤ n ∧ Crew (fun _ => False) w [rowT 0 9 1 v k ((L.map fun f => Value.string f.name).take k)] wr) (fun _ i _ => (n - intOf i).toNat)
    case atStart => exact ⟨0, rfl, Nat.zero_le _, HC.out⟩
    case round =>
      obtain ⟨k, rfl, hk, HR⟩ := hrel
      clear HC
      by_cases hlt : k < n
      · have hltI : (k : Int) < n := by omega
        obtain ⟨x, rfl, c0, c1, p, cp, c2, hs⟩ := HF.out wr HR.bel k (by rw [HL.out]; exact hlt)
        have HM := Lib.hid (take_map (fun f : Fl => Value.string f.name) L k default (by rw [HL.out]; exact hlt))
        have hmem : L.getD k default ∈ L := by
          have hkl : k < L.length := by rw [HL.out]; exact hlt
          rw [List.getD_eq_getElem?_getD, List.getElem?_eq_getElem hkl]
          exact List.getElem_mem hkl
        have HMM := Lib.hid hmem
        clear hmem
        generalize L.getD k default = f at *
        have hdb := (Below.refl wr.heap.size wr).alloc (Nat.le_refl _) (.cells #[.string f.name, .int .i64 f.size, .slice p f.spans.length cp] 35)
        have HD := Lib.hid (HR.block #[.string f.name, .int .i64 f.size, .slice p f.spans.length cp] 35)
        have HSP := Lib.hid (SpansAt.below hs hdb)
        have d0 := (HD.out.at 1 rfl (j := 0) rfl).1
        have d1 := (HD.out.at 1 rfl (j := 1) rfl).1
        have d2 := (HD.out.at 1 rfl (j := 2) rfl).1
        clear HR hs hdb
        go_wp2_with fail
        refine (name_any f.name f.size _ _).mono ?_
        rintro e w2 ⟨rfl, hb⟩
        have HE := Lib.hid ((HD.out.below hb).below ((Below.refl _ w2).alloc (Nat.le_refl _) (.cells #[Value.string f.name] 9)))
        clear HD d0 d1 d2 hb
        go_wp2_with (at_builtin; refine wpList_append_crew HE.out 0 rfl rfl (.tmp 17) (.tmp 21) 74 rfl (.string ⟨#[]⟩) 16 Try.underlying74 infoS rfl (by decide) rfl ⟨w2.heap.size, 0, none⟩ 1 1 [Value.string f.name] rfl rfl (news_one w2 _ _) (by simp [Value.oneCell']) (by unfold maxLen; omega) (by omega) ?ap)
        case ap =>
          intro v' w3 hc
          have HG := Lib.hid (hc.pick [0] (by decide) rfl)
          clear hc HE
          go_wp2
          refine ⟨⟨k + 1, by go_num, by omega, ?_⟩, by simp [intOf]; omega⟩
          rw [← HM.out]
          exact HG.out
      · obtain rfl : k = n := by omega
        have hltI : ¬ (k : Int) < k := by omega
        obtain ⟨a', c', rfl⟩ := HR.slice 0 rfl
        have HB := Lib.hid HR.bel
        have HO := Lib.hid (HR.own 0 rfl)
        clear HR
        go_wp2
        go_ret
        refine ⟨a', c', rfl, ?_, HB.out, own_addr HO.out⟩
        have ho := HO.out
        rw [List.take_of_length_le (by rw [List.length_map, HL.out]; exact Nat.le_refl _)] at ho
        refine (strs_own (S := L.map (·.name)) (base := 0) (e := 9) (n := k) (c := c') ?_).2
        rw [List.map_map]
        exact ho

set_option maxRecDepth 100000 in
set_option maxHeartbeats 4000000 in
theorem told_spans (L : List Fl) (a : Option Addr) (n c : Nat) (w : World) (h : FilesAt w a L) (hl : L.length = n) (hn : n ≤ 1000) :
    Calls Try.prog 51 #[.slice a n c, .func (.func 52) #[] #[]] w (RowsBack (L.map (·.spans)) n w) := by
  obtain ⟨i0, hi0, hz0, hz1, hz2⟩ := info_parts infoRow
  have HF := Lib.hid (fun W (hb : Below w.heap.size w W) => FilesAt.below h hb)
  have HF0 := Lib.hid h
  have HL := Lib.hid hl
  clear h hl
  go_enter Try.func51, Try.ntmps51
  go_wp2_with (at_make; refine wpList_make_own _ rfl _ _ 88 rfl 0 33 i0 (.slice none 0 0) 1 Try.underlying88 hi0 hz0 hz1 .i64 .i64 _ n rfl rfl rfl (by rw [hz2]; omega) (by unfold maxLen; omega) (Nat.zero_le _) ?mk)
  case mk =>
    intro w1 ho hg
    have HC := Lib.hid ((Crew.start w).more (fresh_made ho hg))
    clear ho hg
    go_wp2
    go_loopw [5, 13] (fun v i wr => ∃ (k : Nat) (R : List FR), i = .int .i64 k ∧ k ≤ n ∧ Hid (R.map (·.1) = L.take k ∧ (∀ r ∈ R, SpansAt w r.2.1 r.1.spans)) ∧ Crew (fun _ => False) w [rowT 0 33 1 v k (R.map rowC)] wr) (fun _ i _ => (n - intOf i).toNat)
    case atStart => exact ⟨0, [], rfl, Nat.zero_le _, ⟨rfl, fun r hr => by cases hr⟩, HC.out⟩
    case round =>
      obtain ⟨k, R, rfl, hk, HI, HR⟩ := hrel
      clear HC
      by_cases hlt : k < n
      · have hltI : (k : Int) < n := by omega
        obtain ⟨x, rfl, e0, e1, p, cp, e2, hs⟩ := HF0.out k (by rw [HL.out]; exact hlt)
        have c0 := keeps HR.bel _ _ e0
        have c1 := keeps HR.bel _ _ e1
        have c2 := keeps HR.bel _ _ e2
        have HJ : Hid ((R ++ [(L.getD k default, p, cp)]).map (·.1) = L.take (k + 1) ∧ ∀ r ∈ R ++ [(L.getD k default, p, cp)], SpansAt w r.2.1 r.1.spans) := by
          refine ⟨?_, fun r hr => ?_⟩
          · rw [List.map_append, HI.out.1, take_snoc L k default (by rw [HL.out]; exact hlt)]
            rfl
          · rw [List.mem_append, List.mem_singleton] at hr
            rcases hr with hr | rfl
            · exact HI.out.2 r hr
            · exact hs
        generalize L.getD k default = f at *
        have HD := Lib.hid (HR.block #[.string f.name, .int .i64 f.size, .slice p f.spans.length cp] 35)
        have d0 := (HD.out.at 1 rfl (j := 0) rfl).1
        have d1 := (HD.out.at 1 rfl (j := 1) rfl).1
        have d2 := (HD.out.at 1 rfl (j := 2) rfl).1
        clear HR hs e0 e1 e2
        go_wp2_with fail
        refine (spans_any f.name f.size _ _).mono ?_
        rintro e w2 ⟨rfl, hb⟩
        have HE := Lib.hid ((HD.out.below hb).below ((Below.refl _ w2).alloc (Nat.le_refl _) (.cells #[.slice p f.spans.length cp] 33)))
        clear HD d0 d1 d2 hb
        go_wp2_with (at_builtin; refine wpList_append_crew HE.out 0 rfl rfl (.tmp 17) (.tmp 21) 88 rfl (.slice none 0 0) 24 Try.underlying88 infoRow rfl (by decide) rfl ⟨w2.heap.size, 0, none⟩ 1 1 [.slice p f.spans.length cp] rfl rfl (news_one w2 _ _) (by simp [Value.oneCell']) (by unfold maxLen; omega) (by omega) ?ap)
        case ap =>
          intro v' w3 hc
          have HG : Hid (Crew (fun _ => False) w [rowT 0 33 1 v' (k + 1) ((R ++ [(f, p, cp)]).map rowC)] w3) := by
            unfold Hid
            rw [List.map_append]
            exact hc.pick [0] (by decide) rfl
          clear hc HE
          go_wp2
          exact ⟨⟨k + 1, R ++ [(f, p, cp)], by go_num, by omega, HJ, HG.out⟩, by simp [intOf]; omega⟩
      · obtain rfl : k = n := by omega
        have hltI : ¬ (k : Int) < k := by omega
        obtain ⟨a', c', rfl⟩ := HR.slice 0 rfl
        have HB := Lib.hid HR.bel
        have HO := Lib.hid (HR.own 0 rfl)
        clear HR
        go_wp2
        go_ret
        refine ⟨a', c', rfl, ?_, HB.out⟩
        have ho := (rows_own HO.out (fun r hr => SpansAt.below (HI.out.2 r hr) HB.out)).2
        rw [show (fun r : FR => r.1.spans) = (fun f : Fl => f.spans) ∘ (fun r : FR => r.1) from rfl, ← List.map_map, HI.out.1, List.take_of_length_le (Nat.le_of_eq HL.out)] at ho
        exact ho

set_option maxRecDepth 100000 in
set_option maxHeartbeats 4000000 in
theorem told_files (L : List Fl) (a : Option Addr) (n c : Nat) (w : World) (h : FilesAt w a L) (hl : L.length = n) (hn : n ≤ 1000) (hs : ∀ f ∈ L, f.spans.length ≤ 8796093022208) :
    Calls Try.prog 41 #[.slice a n c, .func (.func 39) #[] #[]] w (FilesBack L w) := by
  obtain ⟨i0, hi0, hz0, hz1, hz2⟩ := info_parts infoF
  have HF := Lib.hid (fun W (hb : Below w.heap.size w W) => FilesAt.below h hb)
  have HL := Lib.hid hl
  have HS := Lib.hid hs
  clear h hl hs
  go_enter Try.func41, Try.ntmps41
  go_wp2_with (at_make; refine wpList_make_own _ rfl _ _ 24 rfl 0 35 i0 (.agg #[.string ⟨#[]⟩, .int .i64 0, .slice none 0 0]) 3 Try.underlying24 hi0 hz0 hz1 .i64 .i64 _ n rfl rfl rfl (by rw [hz2]; omega) (by unfold maxLen; omega) (Nat.zero_le _) ?mk)
  case mk =>
    intro w1 ho hg
    have HC := Lib.hid (((Crew.start w).more (fresh_made ho hg)).deep)
    clear ho hg
    go_wp2
    go_loopw [5, 13] (fun v i wr => ∃ (k : Nat) (R : List FR), i = .int .i64 k ∧ k ≤ n ∧ Hid (R.map (·.1) = L.take k) ∧ Crew (fun _ => False) w [rowT 0 35 3 v k (filesC R), deepT R] wr) (fun _ i _ => (n - intOf i).toNat)
    case atStart => exact ⟨0, [], rfl, Nat.zero_le _, rfl, HC.out⟩
    case round =>
      obtain ⟨k, R, rfl, hk, HI, HR⟩ := hrel
      clear HC
      by_cases hlt : k < n
      · have hltI : (k : Int) < n := by omega
        have hkl : k < L.length := by rw [HL.out]; exact hlt
        obtain ⟨x, rfl, c0, c1, p, cp, c2, hsp⟩ := HF.out wr HR.bel k hkl
        have HJ := Lib.hid (show L.take k ++ [L.getD k default] = L.take (k + 1) from (take_snoc L k default hkl).symm)
        have hmem : L.getD k default ∈ L := by
          rw [List.getD_eq_getElem?_getD, List.getElem?_eq_getElem hkl]
          exact List.getElem_mem hkl
        have HMM := Lib.hid (HS.out _ hmem)
        clear hmem hkl
        generalize L.getD k default = f at *
        have hdb := (Below.refl wr.heap.size wr).alloc (Nat.le_refl _) (.cells #[.string f.name, .int .i64 f.size, .slice p f.spans.length cp] 35)
        have HD := Lib.hid (HR.block #[.string f.name, .int .i64 f.size, .slice p f.spans.length cp] 35)
        have HSP := Lib.hid (SpansAt.below hsp hdb)
        have d0 := (HD.out.at 2 rfl (j := 0) rfl).1
        have d1 := (HD.out.at 2 rfl (j := 1) rfl).1
        have d2 := (HD.out.at 2 rfl (j := 2) rfl).1
        clear HR hsp hdb
        go_wp2_with fail
        refine (copied_any f p cp _ HSP.out HMM.out).mono ?_
        rintro e w2 ⟨p', c', rfl, hf⟩
        have HE := Lib.hid ((HD.out.deeper (r := (f, p', c')) 1 rfl hf).below ((Below.refl _ w2).alloc (Nat.le_refl _) (.cells #[.string f.name, .int .i64 f.size, .slice p' f.spans.length c'] 35)))
        clear HD d0 d1 d2 hf
        go_wp2_with (at_builtin; refine wpList_append_crew HE.out 0 rfl rfl (.tmp 17) (.tmp 21) 24 rfl (.agg #[.string ⟨#[]⟩, .int .i64 0, .slice none 0 0]) 48 Try.underlying24 infoF rfl (by decide) rfl ⟨w2.heap.size, 0, none⟩ 1 1 [.string f.name, .int .i64 f.size, .slice p' f.spans.length c'] rfl rfl (news_three w2 _ _ _ _) (by simp [Value.oneCell']) (by unfold maxLen; omega) (by omega) ?ap)
        case ap =>
          intro v' w3 hc
          have HG : Hid (Crew (fun _ => False) w [rowT 0 35 3 v' (k + 1) (filesC (R ++ [(f, p', c')])), deepT (R ++ [(f, p', c')])] w3) := by
            unfold Hid
            rw [filesC_snoc]
            exact hc.pick [0, 1] (by decide) rfl
          clear hc HE
          go_wp2
          refine ⟨⟨k + 1, R ++ [(f, p', c')], by go_num, by omega, ?_, HG.out⟩, by simp [intOf]; omega⟩
          unfold Hid
          rw [List.map_append, HI.out, ← HJ.out]
          rfl
      · obtain rfl : k = n := by omega
        have hltI : ¬ (k : Int) < k := by omega
        have HC2 := Lib.hid HR
        clear HR
        go_wp2
        go_ret
        refine ⟨_, R, rfl, ?_, ?_⟩
        · rw [HI.out, List.take_of_length_le (Nat.le_of_eq HL.out)]
        · rw [HL.out]
          exact HC2.out

end Go.Proofs.Yteellffkjjllgaa
