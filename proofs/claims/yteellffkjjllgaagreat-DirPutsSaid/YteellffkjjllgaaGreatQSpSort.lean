/-
  slices.Clone of a row of spans, and slices.SortFunc by their first sectors: the same spans, in order. Conditions: as each theorem states them.
-/
import Derived.Test.YteellffkjjllgaaGreatQShelfS
import Derived.Test.YteellffkjjllgaaGreatG4
import Derived.Lib.BufferMore
import Derived.Shelf.SlSortCmp.NoneTotal
namespace Go.Rc5

/-- A span's two cells. -/
def encL (x : SpI) : List Value := [.int .i64 x.1, .int .i64 x.2]

theorem flatI_two (L : List SpI) (t : Nat) (h : t < L.length * 2) : (flatI L)[t]? = some ((encL (L.getD (t / 2) (0, 0)))[t % 2]!) := by
  have h2 : t / 2 < L.length := by omega
  obtain ⟨h0, h1⟩ := flatI_at L (t / 2) h2
  rcases Nat.mod_two_eq_zero_or_one t with e | e
  · have et : t / 2 * 2 = t := by omega
    rw [et] at h0
    rw [h0, e]
    rfl
  · have et : t / 2 * 2 + 1 = t := by omega
    rw [et] at h1
    rw [h1, e]
    rfl

theorem flatI_flatK (L : List SpI) : Go.Sort.flatK encL 2 L.toArray = (flatI L).toArray := by
  apply Array.ext
  · simp [flatI_length]
  · intro t h1 h2
    have ht : t < L.length * 2 := by simpa using h1
    have e1 := flatI_two L t ht
    have e2 := Go.Sort.get_flatK encL 2 L.toArray t (by simpa using ht)
    rw [getElem!_pos _ t h1] at e2
    rw [e2]
    rw [List.getElem?_eq_getElem (by rw [flatI_length]; exact ht)] at e1
    have e3 := Option.some.inj e1
    rw [List.getElem_toArray, e3]
    congr 2
    have h3 : t / 2 < L.length := by omega
    simp [List.getD_eq_getElem?_getD, h3]

end Go.Rc5
namespace Go.Proofs.YteellffkjjllgaaGreat
open Go.RowKit Go.Rc5 Go.Shelf Go.Lib Go.Sort

theorem heap_put {w : World} {g n : Nat} {os : Array Obj} {cur : Array Value} {e : TypeId} {fr : Nat × Nat} (F : Array Value) (hb : w.heap[g]? = some (.cells cur e fr)) :
    (grow (putRow id (Sort.ahead w n) g 0 F) os).heap[g]? = some (.cells (putCells id 0 F cur) e fr) := by
  have hg : g < w.heap.size := (Array.getElem?_eq_some_iff.1 hb).1
  rw [heap_grow_old _ _ (by simpa using hg)]
  simp [putRow, mapBlock, Sort.ahead, Array.getElem?_modify, hb, onCells]

theorem grown_put {w : World} {g n : Nat} {os : Array Obj} (F : Array Value) : w.grownBy (grow (putRow id (Sort.ahead w n) g 0 F) os) (some g) := by
  refine ⟨rfl, rfl, rfl, by simp, fun k hk hne => ?_⟩
  rw [heap_grow_old _ _ (by simpa using hk)]
  have : g ≠ k := fun e => hne (by rw [e])
  simp [putRow, mapBlock, Sort.ahead, Array.getElem?_modify, this]

theorem take_put (cur : Array Value) (F : List Value) (h : F.length ≤ cur.size) : (putCells id 0 F.toArray cur).toList.take F.length = F := by
  apply List.ext_getElem?
  intro j
  by_cases hj : j < F.length
  · rw [List.getElem?_take_of_lt hj, Array.getElem?_toList]
    simp [putCells, hj, show j < cur.size by omega]
  · rw [List.getElem?_take_eq_none (by omega), List.getElem?_eq_none (by omega)]

theorem ltLo (x y : SpI) : ltOf (fun x y : SpI => Lib.compareInt x.1 y.1) x y = decide (x.1 < y.1) := by
  unfold ltOf Lib.compareInt
  by_cases h1 : x.1 < y.1
  · simp [h1]
  · by_cases h2 : y.1 < x.1 <;> simp [h1, h2]

theorem swoLo : SWO (ltOf fun x y : SpI => Lib.compareInt x.1 y.1) where
  irrefl x := by rw [ltLo]; simp
  trans x y z h1 h2 := by rw [ltLo] at *; simp at *; omega
  ntrans x y z h1 h2 := by rw [ltLo] at *; simp at *; omega

set_option maxHeartbeats 1000000 in
theorem closure_any (x y : SpI) (W : World) : Calls Tryz.prog 68 #[.agg #[.int .i64 x.1, .int .i64 x.2], .agg #[.int .i64 y.1, .int .i64 y.2]] W fun e w' => e = .returned (.int .i64 (Lib.compareInt x.1 y.1)) ∧ ∃ q os', w' = grow (W.drewN q) os' := by
  have hcon := fun W' => AnyG.cmp_Compare_int Tryz.cmpL x.1 y.1 W'
  change ∀ W', Calls Tryz.prog 69 _ _ _ at hcon
  generalize Lib.compareInt x.1 y.1 = r at hcon ⊢
  go_enter Tryz.func68, Tryz.ntmps68
  go_wp2_with (go_at_call 69; refine (hcon _).mono ?_; rintro e w' ⟨rfl, rfl⟩)
  go_ret
  exact ⟨rfl, 0, _, by rw [alloc_eq_grow, alloc_eq_grow, grow_grow]; rfl⟩

/-- In order of their first sectors. -/
def Asc (L : List SpI) : Prop := L.Pairwise fun s t => s.1 ≤ t.1

theorem perm_of {L : List SpI} {d : Array SpI} (h : PermIn 0 L.toArray.size L.toArray d) : d.toList.Perm L := by
  obtain ⟨h1, _, h3⟩ := h
  have e1 : (d.extract 0 L.toArray.size).toList = d.toList := by rw [← h1]; simp
  have e2 : (L.toArray.extract 0 L.toArray.size).toList = L := by simp
  rwa [e1, e2] at h3

theorem asc_of {L : List SpI} {d : Array SpI} (hs : d.size = L.toArray.size) (h : SortedIn (ltOf fun x y : SpI => Lib.compareInt x.1 y.1) 0 L.toArray.size d) : Asc d.toList := by
  unfold Asc
  rw [List.pairwise_iff_getElem]
  intro i j hi hj hij
  have := h i j (Nat.zero_le _) hij (by rw [← hs]; simpa using hj)
  rw [ltLo] at this
  rw [getElem!_pos d i (by simpa using hi), getElem!_pos d j (by simpa using hj)] at this
  simp at this
  simpa using this

theorem sort_some (L : List SpI) (g cap : Nat) (U : Nat → Prop) (w0 w : World) (l : List (Thing 0)) (i : Nat) (C : Crew U w0 l w) (hi : l[i]? = some (spT (.slice (some ⟨g, 0, none⟩) L.length cap) L)) (hlen : L.length ≤ 1000000) :
    Calls Tryz.prog 67 #[.slice (some ⟨g, 0, none⟩) L.length cap, .func (.func 68) #[] #[]] w fun e w' => e = .returned (.tuple #[]) ∧ ∃ L', L'.Perm L ∧ Asc L' ∧ Crew U w0 (l.set i (spT (.slice (some ⟨g, 0, none⟩) L.length cap) L')) w' := by
  obtain ⟨O, ⟨ho, rfl⟩, hset, _⟩ := C.one hi
  obtain ⟨_, hnc, hcm, cur, hg, hsz, ht⟩ := own_block ho
  have eg : ∀ args w, (callFunc 68 args).run Tryz.prog w = .ok (.enter 68 args) w := enters_of Tryz.func68 (by kernel_rfl) rfl
  have hH : HoldsK encL 2 w g 0 L.toArray := by
    unfold HoldsK
    rw [flatI_flatK]
    intro j hj
    have hj' : j < (flatI L).length := by simpa using hj
    have e : (flatI L)[j]? = some (flatI L)[j] := List.getElem?_eq_getElem hj'
    obtain ⟨c0, c1⟩ := own_cell ho e
    rw [Nat.zero_add]
    refine ⟨?_, c1⟩
    rw [c0, getElem!_pos _ j hj]
    simp
  have hcon := AnyQ.slices_SortFunc Tryz.sortL 2 Tryz.isAgg38 Tryz.sizeOf38 encL (fun _ => rfl) (fun x v hv => by simp [encL] at hv; rcases hv with rfl | rfl <;> rfl) (fun x y => Lib.compareInt x.1 y.1) swoLo 68 #[] g 0 cap L.toArray w eg
    (fun _ _ _ _ x y => closure_any x y _) hH (Array.getElem?_eq_some_iff.1 hg).1 (by simp; omega)
  refine Calls.mono (show Calls Tryz.prog 67 _ _ _ from hcon) ?_
  rintro e w' ⟨rfl, d', n, os, hp, hs, rfl⟩
  have hd : d'.toList.length = L.length := by simpa using hp.1
  refine ⟨rfl, d'.toList, perm_of hp, asc_of hp.1 hs, ?_⟩
  have e1 : sortWorldK encL 2 w g 0 n d' os = grow (putRow id (Sort.ahead w n) g 0 (flatI d'.toList).toArray) os := by
    unfold sortWorldK putRowK
    rw [← flatI_flatK]
  rw [e1]
  refine hset _ _ ⟨_, ⟨⟨by rw [flatI_length], .inr ⟨g, cap, _, by rw [hd], Nat.zero_le _, heap_put _ hg, by rw [hd]; exact hnc, hcm, by simp [putCells, hsz], ?_⟩⟩, rfl⟩, (Moved.refl _ w).grown (grown_put _) (fun k hk => .inl hk), fun k hk => .inl hk⟩
  have := take_put cur (flatI d'.toList) (by rw [flatI_length, hsz, hd]; omega)
  rw [flatI_length] at this
  exact this

theorem sort_any (L : List SpI) (v : Value) (U : Nat → Prop) (w0 w : World) (l : List (Thing 0)) (i : Nat) (C : Crew U w0 l w) (hi : l[i]? = some (spT v L)) (hlen : L.length ≤ 1000000) :
    Calls Tryz.prog 67 #[v, .func (.func 68) #[] #[]] w fun e w' => e = .returned (.tuple #[]) ∧ ∃ L', L'.Perm L ∧ Asc L' ∧ Crew U w0 (l.set i (spT v L')) w' := by
  rcases (C.own i hi).2 with ⟨rfl, h0⟩ | ⟨g, c, cur, rfl, _⟩
  · have e0 : L = [] := List.eq_nil_of_length_eq_zero h0
    subst e0
    have hcon := AnyF.slices_SortFunc_none Tryz.sortL none 0 (.func (.func 68) #[] #[]) w
    refine Calls.mono (show Calls Tryz.prog 67 _ _ _ from hcon) ?_
    rintro e w' ⟨rfl, rfl⟩
    obtain ⟨O, ho, hset, _⟩ := C.one hi
    exact ⟨rfl, [], List.Perm.refl _, List.Pairwise.nil, hset _ _ (Turns.same ho)⟩
  · exact sort_some L g c U w0 w l i C hi hlen

set_option maxHeartbeats 2000000 in
theorem clone_any (L : List SpI) (a : Option Addr) (c len : Nat) (w : World) (h : SpansAt w a L) (hl : L.length = len) (hlen : len ≤ 100000) :
    Calls Tryz.prog 66 #[.slice a len c] w fun e w' => ∃ v, e = .returned v ∧ Fresh (spT v L) w w' := by
  cases a with
  | none =>
    have e0 : L = [] := by
      cases L with
      | nil => rfl
      | cons s r =>
        obtain ⟨x, hx, _⟩ := h 0 (by simp)
        cases hx
    subst e0
    have HF : Hid (Fresh (spT (.slice none 0 0) []) w w) := ((Crew.start w).nil 38 2).fresh
    subst hl
    clear h
    have q := fun W => run_eql_slice_nil_nil (P := Tryz.prog) W (t := 23) 0 c Tryz.underlying23
    go_enter Tryz.func66, Tryz.ntmps66
    go_wp2
    go_ret
    exact ⟨_, rfl, HF.out⟩
  | some x =>
    have HE := Lib.hid ((Crew.start w).empty 38 2)
    have HS := Lib.hid (SpansAt.below h ((Below.refl _ w).alloc (Nat.le_refl _) (.cells #[] 38)))
    have HL := Lib.hid hl
    have q := fun W => run_eql_slice_some_nil (P := Tryz.prog) W (t := 23) x len c Tryz.underlying23
    clear h hl
    go_enter Tryz.func66, Tryz.ntmps66
    go_wp2_with (at_builtin; refine wpList_append_crew HE.out 0 rfl rfl (.tmp 5) (.tmp 6) 23 rfl (.agg #[.int .i64 0, .int .i64 0]) 16 Tryz.underlying23 infoP rfl (by decide) rfl x len c (flatI L) rfl (by rw [flatI_length, HL.out]) ?c1 ?c2 ?b1 ?b2 ?next)
    case c1 =>
      intro j u hu
      have hj : j < L.length * 2 := by
        have := (List.getElem?_eq_some_iff.1 hu).1
        rwa [flatI_length] at this
      rw [flatI_two L j hj] at hu
      obtain ⟨x', ex, c0, c1⟩ := HS.out (j / 2) (by omega)
      cases ex
      cases hu
      rcases Nat.mod_two_eq_zero_or_one j with e | e
      · have et : j / 2 * 2 = j := by omega
        rw [et] at c0
        rw [c0, e]
        rfl
      · have et : x.add j = ⟨(x.add (j / 2 * 2)).block, (x.add (j / 2 * 2)).off + 1, none⟩ := by
          have hj0 : j ≠ 0 := by omega
          rw [add_block]
          unfold Addr.add
          rw [if_neg hj0]
          by_cases h2 : j / 2 * 2 = 0
          · rw [if_pos h2]
            have : j = 1 := by omega
            rw [this]
          · rw [if_neg h2]
            have : x.off + j = x.off + j / 2 * 2 + 1 := by omega
            simp [this]
        rw [et, c1, e]
        rfl
    case c2 => exact flatI_one L
    case b1 => unfold maxLen; omega
    case b2 => omega
    case next =>
      intro v' w2 hF
      have HF2 : Hid (Fresh (spT v' L) w w2) := by
        have := hF.fresh
        rw [← HL.out] at this
        exact this
      clear hF
      go_wp2
      go_ret
      exact ⟨_, rfl, HF2.out⟩

end Go.Proofs.YteellffkjjllgaaGreat
