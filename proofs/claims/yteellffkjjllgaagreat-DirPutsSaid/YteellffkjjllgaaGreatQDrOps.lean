/-
  What Used, Find, Without and With answer of a row of files. Conditions: as each theorem states them.
-/
import Derived.Test.YteellffkjjllgaaGreatQDrDelB
namespace Go.Rc7
open Go.Rc5

def usedL (L : List Fl) : List SpI := (L.map (·.spans)).flatten
def withoutL (L : List Fl) (nm : ByteArray) : List Fl := L.filter fun f => !decide (f.name = nm)
def withL (L : List Fl) (f : Fl) : List Fl := (L.filter fun g => lt g.name f.name) ++ (f :: L.filter fun g => lt f.name g.name)
def findL (L : List Fl) (nm : ByteArray) : Option Fl := L.find? fun f => decide (f.name = nm)

theorem keep_map (R : List FR) (nm : ByteArray) : (R.filter (keep nm)).map (·.1) = withoutL (R.map (·.1)) nm := by
  induction R with
  | nil => rfl
  | cons r q ih =>
    unfold withoutL at ih ⊢
    rw [List.map_cons]
    by_cases e : r.1.name = nm
    · rw [List.filter_cons_of_neg (by simp [keep, e]), List.filter_cons_of_neg (by simp [e])]
      exact ih
    · rw [List.filter_cons_of_pos (by simp [keep, e]), List.filter_cons_of_pos (by simp [e]), List.map_cons, ih]

theorem find_some {L : List Fl} {nm : ByteArray} {k : Nat} (hk : k < L.length) (he : (L.getD k default).name = nm) (hne : ∀ j, j < k → (L.getD j default).name ≠ nm) : findL L nm = some (L.getD k default) := by
  induction L generalizing k with
  | nil => simp at hk
  | cons f r ih =>
    unfold findL
    cases k with
    | zero =>
      rw [List.find?_cons_of_pos]
      · rfl
      · simpa using he
    | succ k =>
      have h0 := hne 0 (by omega)
      rw [List.find?_cons_of_neg (by simpa using h0)]
      exact ih (by simpa using hk) (by simpa using he) (fun j hj => by simpa using hne (j + 1) (by omega))

theorem find_none {L : List Fl} {nm : ByteArray} (hne : ∀ j, j < L.length → (L.getD j default).name ≠ nm) : findL L nm = none := by
  unfold findL
  rw [List.find?_eq_none]
  intro f hf
  obtain ⟨j, hj, rfl⟩ := mem_getD default hf
  simpa using hne j hj

theorem names_at {L : List Fl} {k : Nat} (h : k < L.length) : (L.map (·.name)).getD k .empty = (L.getD k default).name := getD_map (fun f : Fl => f.name) L k default .empty h

/-- What stands ahead of a name's place, and behind it. -/
theorem with_split {L : List Fl} {f : Fl} (hr : Rises (L.map (·.name))) {k : Nat} (hb : Belongs (L.map (·.name)) f.name k) {b : Bool} (hbt : b = true ↔ k < L.length ∧ (L.map (·.name)).getD k .empty = f.name) :
    withL L f = L.take k ++ (f :: L.drop (k + if b then 1 else 0)) := by
  have hkl : k ≤ L.length := by have := hb.le; rwa [List.length_map] at this
  have hbelow : ∀ g ∈ L.take k, lt g.name f.name = true := fun g hg => by
    obtain ⟨j, hj, rfl⟩ := mem_getD default hg
    rw [List.length_take] at hj
    have e : (L.take k).getD j default = L.getD j default := by simp [List.getD_eq_getElem?_getD, show j < k by omega]
    rw [e, ← names_at (by omega)]
    exact hb.below j (by omega)
  have habove : ∀ g ∈ L.drop k, lt g.name f.name = false := fun g hg => by
    obtain ⟨j, hj, rfl⟩ := mem_getD default hg
    rw [List.length_drop] at hj
    have e : (L.drop k).getD j default = L.getD (k + j) default := by simp [List.getD_eq_getElem?_getD]
    rw [e, ← names_at (by omega)]
    exact hb.above (k + j) (by omega) (by rw [List.length_map]; omega)
  have hbehind : ∀ g ∈ L.drop (k + if b then 1 else 0), lt f.name g.name = true := fun g hg => by
    obtain ⟨j, hj, rfl⟩ := mem_getD default hg
    rw [List.length_drop] at hj
    have e : (L.drop (k + if b then 1 else 0)).getD j default = L.getD ((k + if b then 1 else 0) + j) default := by simp [List.getD_eq_getElem?_getD]
    rw [e]
    obtain ⟨m, hm⟩ : ∃ m, (k + if b then 1 else 0) + j = m := ⟨_, rfl⟩
    rw [hm]
    have hml : m < L.length := by omega
    have hab := hb.above m (by omega) (by rw [List.length_map]; exact hml)
    rw [names_at hml] at hab
    refine lt_tri hab (fun he => ?_)
    by_cases hmk : m = k
    · subst hmk
      have : b = true := hbt.2 ⟨hml, by rw [names_at hml]; exact he⟩
      rw [this] at hm
      simp at hm
      omega
    · have h1 := rises_at hr (i := k) (j := m) (by omega) (by rw [List.length_map]; exact hml)
      rw [names_at hml, he] at h1
      have h2 := hb.above k (Nat.le_refl _) (by rw [List.length_map]; omega)
      rw [h1] at h2
      cases h2
  have hsplit : L = L.take k ++ L.drop k := (List.take_append_drop k L).symm
  unfold withL
  congr 1
  · conv => lhs; rw [hsplit]
    rw [List.filter_append, List.filter_eq_self.2 hbelow, List.filter_eq_nil_iff.2 (fun g hg => by rw [habove g hg]; simp), List.append_nil]
  · congr 1
    have hz : (L.take k).filter (fun g => lt f.name g.name) = [] := List.filter_eq_nil_iff.2 (fun g hg => by rw [lt_asymm (hbelow g hg)]; simp)
    conv => lhs; rw [hsplit]
    rw [List.filter_append, hz, List.nil_append]
    cases b with
    | false =>
      simp only [Bool.false_eq_true, if_false, Nat.add_zero] at hbehind ⊢
      exact List.filter_eq_self.2 hbehind
    | true =>
      simp only [if_true] at hbehind ⊢
      obtain ⟨h1, h2⟩ := hbt.1 rfl
      rw [drop_at L k default h1, List.filter_cons_of_neg, List.filter_eq_self.2 hbehind]
      rw [← names_at h1, h2, lt_irrefl]
      simp

end Go.Rc7
namespace Go.Proofs.YteellffkjjllgaaGreat
open Go.RowKit Go.Rc5 Go.Rc6 Go.Rc7

/-- A row of spans is the answer, read. -/
def SpansBack (S : List SpI) (w : World) (e : Ending) (w' : World) : Prop := ∃ a c, e = .returned (.slice a S.length c) ∧ SpansAt w' a S ∧ Below w.heap.size w w'

set_option maxRecDepth 100000 in
set_option maxHeartbeats 4000000 in
theorem Used_any (L : List Fl) (a : Option Addr) (n c : Nat) (w : World) (h : FilesAt w a L) (hl : L.length = n) (hn : n ≤ 1000) (hsum : ((L.map (·.spans)).map List.length).sum ≤ 1000000) :
    Calls Tryz.prog 12 #[.slice a n c] w (SpansBack (usedL L) w) := by
  have HT := Lib.hid (told_spans L a n c w h hl hn)
  have HL := Lib.hid hl
  have HS := Lib.hid hsum
  clear h hl hsum
  go_enter Tryz.func12, Tryz.ntmps12
  go_wp2_with fail
  refine HT.out.mono ?_
  rintro e w1 ⟨a1, c1, rfl, hr, hb1⟩
  have HB := Lib.hid hb1
  have HC := Lib.hid (ConcatS_any (L.map (·.spans)) a1 n c1 w1 hr (by rw [List.length_map, HL.out]) hn HS.out)
  clear hr hb1 HT
  go_wp2_with fail
  refine HC.out.mono ?_
  rintro e w2 ⟨v, rfl, hf⟩
  rw [show (L.map (·.spans)).flatten = usedL L from rfl] at hf
  generalize usedL L = Us at *
  have HF := Lib.hid hf
  clear hf HC
  obtain ⟨O, ⟨ho, _⟩, hb2, _⟩ := HF.out
  obtain ⟨a2, c2, rfl⟩ := own_slice ho
  have HS2 := Lib.hid (spans_own ho).2
  have HB2 := Lib.hid (below_trans HB.out hb2)
  clear ho hb2 HF
  go_wp2
  go_ret
  exact ⟨a2, c2, rfl, HS2.out, HB2.out⟩

theorem results_row_one {P : Program} {fn : Func} {p q : Tmp} {ty : TypeId} (h : fn.results = #[.cell p ty, .tmp q]) (tmps : Array Value) (w : World) (g : Nat) (t : TypeId) (cs : Array Value) (fr : Nat × Nat) (d : TypeDesc)
    (hp : tmps.getD p undef = .pointer (some ⟨g, 0, none⟩)) (hg : w.heap[g]? = some (.cells cs t fr))
    (hu : P.underlying ty = some d) (hd : (match d with | .struct _ | .array _ _ => true | _ => false) = true) (hi : (P.info? ty).map (·.size) = some cs.size) :
    (results fn tmps).run P w = .ok (.tuple #[.agg cs, tmps.getD q undef]) w := by
  have hp' : tmps[p]?.getD undef = .pointer (some ⟨g, 0, none⟩) := by simpa using hp
  have h1 := run_loadVar_row w g t ty cs fr d hg hu hd hi
  simp [results, h, hp', asAddr, h1, Result.andThen]

/-- What Find answers: the file, or that there is none. -/
def FindBack (o : Option Fl) (w : World) (e : Ending) (w' : World) : Prop :=
  (∃ f p c, o = some f ∧ e = .returned (.tuple #[.agg #[.string f.name, .int .i64 f.size, .slice p f.spans.length c], .bool true]) ∧ SpansAt w' p f.spans ∧ Below w.heap.size w w') ∨
  (o = none ∧ e = .returned (.tuple #[.agg #[.string ⟨#[]⟩, .int .i64 0, .slice none 0 0], .bool false]) ∧ Below w.heap.size w w')

end Go.Proofs.YteellffkjjllgaaGreat
