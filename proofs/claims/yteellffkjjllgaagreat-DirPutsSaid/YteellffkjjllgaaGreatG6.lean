/-
  'append' of spans that lie anywhere to a row of the call's own. Conditions: as each theorem states them.
  What a file tells of itself: its name, its spans, itself with spans of its own. Conditions: the file's spans are read where they lie, and take at most 2^47 bytes.
  What each file tells, gathered: its name; its spans; itself with spans of its own. Conditions: as each theorem states them.
  Contracts of functions of Go's own library, each laid over this program's numbers: what each answers, and that what was in memory stays. Conditions: as each theorem states them.
  What the test for a wrong byte answers. Condition: the text has at most as many bytes as a text may have.
  Whether a text may be a name, as the program answers it. Condition: the text has at most as many bytes as a text may have.
  What the document: its own reading of a rune answers. Condition: the text has a byte, and at most as many as a text may have.
-/
import Derived.Test.YteellffkjjllgaaGreatG2
import Derived.Test.YteellffkjjllgaaGreatG3
import Derived.Test.YteellffkjjllgaaGreatG5
import Derived.Laws.OwnMore
import Derived.Lib.LazyBuf
import Derived.OwnWalk
import Derived.Shelf.Strings.Builder1
import Derived.Shelf.Strings.Builder2
import Derived.Shelf.Strings.OnBuilder
import Derived.Shelf.Small.Bits
import Derived.Shelf.Strings.BuilderF
import Derived.Shelf.Strings.BuilderK
import Derived.Shelf.Strings.Prefix
import Derived.Ground.SlgcProg
import Derived.Shelf.SlicesG.Cmp
import Derived.Test.YteellffkjjllgaaGreatProg
import Derived.WalkKit
import Derived.WalkSpells
import Derived.BigCall
import Derived.BigQuiet
import Derived.Deep.QuietTactic
import Derived.RegionTactic
import Derived.ChangeAlike
namespace Go.Rc5

end Go.Rc5
namespace Go.Proofs.YteellffkjjllgaaGreat
open Go.RowKit Go.Rc5

theorem spans_news {w : World} {ad : Addr} {L : List SpI} (h : SpansAt w (some ad) L) : ∀ j u, (flatI L)[j]? = some u → w.cell? (ad.add j) = some u := by
  intro j u hu
  have hj : j < L.length * 2 := by
    have := (List.getElem?_eq_some_iff.1 hu).1
    rw [flatI_length] at this
    exact this
  obtain ⟨i, hi⟩ : ∃ i, j = i * 2 ∨ j = i * 2 + 1 := ⟨j / 2, by omega⟩
  have hil : i < L.length := by omega
  obtain ⟨x, ex, c0, c1⟩ := h i hil
  cases ex
  obtain ⟨f0, f1⟩ := flatI_at L i hil
  rcases hi with rfl | rfl
  · rw [hu] at f0
    rw [c0, f0]
  · rw [hu] at f1
    rw [show i * 2 + 1 = i * 2 + (0 + 1) from rfl, add_spelt, c1, f1]

theorem run_append_noneC {P : Program} {w : World} (base : Nat) (t ty e : TypeId) (i : TypeInfo) (size c : Nat) (ht : P.underlying t = some (.slice e)) (hi : P.info? e = some i)
    (v : Value) (n : Nat) (xs : List Value) (hown : w.ownsRow base e size v n xs) :
    (Builtin.append_ #[t, t] ty #[v, .slice none 0 c]).run P w = .ok v w := by
  rcases hown.2 with ⟨rfl, rfl⟩ | ⟨g, cap, cur, rfl, _, _, hnc, _⟩
  · simp [Builtin.append_, run_underlying ht, sizeOf, typeInfo, hi, Builtin.lenOf, Builtin.firstCells]
  · simp [Builtin.append_, run_underlying ht, sizeOf, typeInfo, hi, Builtin.lenOf, Builtin.firstCells, hnc, storeCells]

/-- 'append' of spans that lie anywhere to a row of the call's own. -/
theorem wpList_append_spans {U : Nat → Prop} {w0 w : World} {l : List (Thing 0)} {ops : Array Oper} {rest : List Oper} {o : Oper} {a : Act} {Q : Exit → Act → World → Prop} {M L : List SpI} (h : Crew U w0 l w) (i : Nat) {v : Value} (hi : l[i]? = some (spT v M)) (hgd : o.guard = none) (s x : Operand)
    (ho : o.op = .call { callee := .builtin .append, args := #[s, x], argTypes := #[23, 23] }) (hs : a.eval s = v) (ao : Option Addr) (m c : Nat) (hx : a.eval x = .slice ao m c) (hsp : SpansAt w ao L) (hl : L.length = m) (hb : M.length + m ≤ 8796093022208)
    (hK : ∀ v' w', Crew U w0 (l.set i (spT v' (M ++ L))) w' → wpList Tryz.prog ops Q rest (a.put o.dst v') w') : wpList Tryz.prog ops Q (o :: rest) a w := by
  cases ao with
  | none =>
    have hL : L = [] := by
      cases L with
      | nil => rfl
      | cons y r => obtain ⟨z, hz, _⟩ := hsp 0 (by simp); cases hz
    subst hL
    obtain rfl : m = 0 := by simpa using hl.symm
    obtain ⟨i0, hi0, _⟩ := info_parts infoP
    have hr := run_append_noneC (P := Tryz.prog) (w := w) 0 23 o.type 38 i0 2 c Tryz.underlying23 hi0 v M.length (flatI M) (h.own i hi)
    refine wpList_plain hgd fun K hK' => ?_
    unfold Oper.wp execOp
    simp only [ho, resolve, invoke, builtin, Sem.run_bind, Sem.run_pure, Result.andThen_ok, List.map_toArray, List.map_cons, List.map_nil, hs, hx, hr]
    refine hK' _ _ (hK v w ?_)
    rw [List.append_nil]
    have e : l.set i (spT v M) = l := by
      apply List.ext_getElem?
      intro j
      rw [List.getElem?_set]
      by_cases e : i = j
      · subst e
        rw [if_pos rfl, if_pos (List.getElem?_eq_some_iff.1 hi).1, hi]
      · rw [if_neg e]
    rw [e]
    exact h
  | some ad =>
    refine wpList_append_crew h i hi hgd s x 23 ho (.agg #[.int .i64 0, .int .i64 0]) 16 Tryz.underlying23 infoP rfl (by decide) hs ad m c (flatI L) hx (by rw [flatI_length, hl]) (spans_news hsp) (flatI_one L) (by unfold maxLen; omega) (by omega) ?_
    intro v' w' hc
    refine hK v' w' ?_
    rw [← flatI_append] at hc
    show Crew U w0 (l.set i (rowT 0 38 2 v' (M ++ L).length (flatI (M ++ L)))) w'
    rw [List.length_append, hl]
    exact hc

theorem own_none {w : World} {base e z n c : Nat} {xs : List Value} {a : Option Addr} (h : w.ownsRow base e z (.slice a n c) n xs) : a = none → c = 0 := by
  rintro rfl
  rcases h.2 with ⟨e, _⟩ | ⟨g, cap, cur, e, _⟩
  · cases e
    rfl
  · cases e

end Go.Proofs.YteellffkjjllgaaGreat

namespace Go.Proofs.YteellffkjjllgaaGreat
open Go.RowKit Go.Rc5 Go.Rc7

set_option maxHeartbeats 1000000 in
theorem name_any (s : ByteArray) (z : Int) (v : Value) (w : World) :
    Calls Tryz.prog 34 #[.agg #[.string s, .int .i64 z, v]] w fun e w' => e = .returned (.string s) ∧ Below w.heap.size w w' := by
  have HB := Lib.hid ((Crew.start w).block #[.string s, .int .i64 z, v] 40).bel
  go_enter Tryz.func34, Tryz.ntmps34
  go_wp2
  go_ret
  exact ⟨rfl, HB.out⟩

set_option maxHeartbeats 1000000 in
theorem spans_any (s : ByteArray) (z : Int) (v : Value) (w : World) :
    Calls Tryz.prog 29 #[.agg #[.string s, .int .i64 z, v]] w fun e w' => e = .returned v ∧ Below w.heap.size w w' := by
  have HB := Lib.hid ((Crew.start w).block #[.string s, .int .i64 z, v] 40).bel
  go_enter Tryz.func29, Tryz.ntmps29
  go_wp2
  go_ret
  exact ⟨rfl, HB.out⟩

set_option maxRecDepth 100000 in
set_option maxHeartbeats 2000000 in
theorem Clone_any (S : List SpI) (p : Option Addr) (n c : Nat) (w : World) (h : SpansAt w p S) (hl : S.length = n) (hb : n ≤ 8796093022208) :
    Calls Tryz.prog 66 #[.slice p n c] w fun e w' => ∃ p' c', e = .returned (.slice p' n c') ∧ Fresh (spT (.slice p' n c') S) w w' := by
  subst hl
  have q22 : ∀ (w : World) (a : Option Addr) (n c : Nat), (binOp .eql 23 (.slice a n c) (.slice none 0 0)).run Tryz.prog w = .ok (.bool a.isNone) w := fun w a n c => Lib.run_eql_slice_nil (P := Tryz.prog) (h := Tryz.underlying23) w _ _ a n c 0 0
  cases p with
  | none =>
    have hS : S = [] := by
      cases S with
      | nil => rfl
      | cons y r => obtain ⟨z, hz, _⟩ := h 0 (by simp); cases hz
    subst hS
    have HF := Lib.hid ((Crew.start w).nil 38 2).fresh
    clear h hb
    go_enter Tryz.func66, Tryz.ntmps66
    go_wp2
    go_ret
    exact ⟨none, 0, rfl, HF.out⟩
  | some x =>
    have HC := Lib.hid ((Crew.start w).empty 38 2)
    have HS := Lib.hid (SpansAt.below h HC.out.bel)
    have HBd := Lib.hid hb
    clear h hb
    go_enter Tryz.func66, Tryz.ntmps66
    go_wp2_with (at_builtin; refine wpList_append_spans (M := []) (L := S) HC.out 0 rfl rfl (.tmp 5) (.tmp 6) rfl rfl (some x) S.length c rfl HS.out rfl (by have := HBd.out; simp; omega) ?nx)
    case nx =>
      intro v' w2 hc
      have HC2 : Hid (Crew (fun _ => False) w [spT v' S] w2) := by
        unfold Hid
        simpa using hc
      obtain ⟨p', c', rfl⟩ := HC2.out.slice 0 rfl
      clear hc HC
      go_wp2
      go_ret
      exact ⟨p', c', rfl, HC2.out.fresh⟩

end Go.Proofs.YteellffkjjllgaaGreat

namespace Go.Proofs.YteellffkjjllgaaGreat
open Go.RowKit Go.Rc5 Go.Rc7

theorem infoS : (Tryz.prog.info? 9).map (fun i => (i.zero, i.size, i.bytes)) = some (some (.string ⟨#[]⟩), 1, 16) := by kernel_rfl
theorem infoRow : (Tryz.prog.info? 23).map (fun i => (i.zero, i.size, i.bytes)) = some (some (.slice none 0 0), 1, 24) := by kernel_rfl
theorem infoF : (Tryz.prog.info? 40).map (fun i => (i.zero, i.size, i.bytes)) = some (some (.agg #[.string ⟨#[]⟩, .int .i64 0, .slice none 0 0]), 3, 48) := by kernel_rfl
theorem infoBl : (Tryz.prog.info? 4).map (fun i => (i.zero, i.size, i.bytes)) = some (some (.bool false), 1, 1) := by kernel_rfl

/-- A row of texts is the answer. -/
def StrsBack (S : List ByteArray) (n : Nat) (w : World) (e : Ending) (w' : World) : Prop := ∃ a c, e = .returned (.slice a n c) ∧ StrsAt w' a S ∧ Below w.heap.size w w' ∧ ∀ x, a = some x → ∃ g, x = ⟨g, 0, none⟩ ∧ n ≤ c
def BoolsBack (S : List Bool) (n : Nat) (w : World) (e : Ending) (w' : World) : Prop := ∃ a c, e = .returned (.slice a n c) ∧ BoolsAt w' a S ∧ Below w.heap.size w w'
def RowsBack (S : List (List SpI)) (n : Nat) (w : World) (e : Ending) (w' : World) : Prop := ∃ a c, e = .returned (.slice a n c) ∧ RowsAt w' a S ∧ Below w.heap.size w w'
/-- New files, with spans of their own. -/
def FilesBack (L : List Fl) (w : World) (e : Ending) (w' : World) : Prop := ∃ v R, e = .returned v ∧ R.map (·.1) = L ∧ Crew (fun _ => False) w [rowT 0 40 3 v L.length (filesC R), deepT R] w'

theorem own_addr {w : World} {base e z n c : Nat} {a : Option Addr} {xs : List Value} (h : w.ownsRow base e z (.slice a n c) n xs) : ∀ x, a = some x → ∃ g, x = ⟨g, 0, none⟩ ∧ n ≤ c := by
  intro x hx
  rcases h.2 with ⟨e, _⟩ | ⟨g, cap, cur, e, _, _, hc, _⟩
  · cases e
    cases hx
  · cases e
    cases hx
    exact ⟨g, rfl, hc⟩

theorem fresh_made {w w' : World} {e z n : Nat} (h : w'.ownsRow 0 e z (.slice (some ⟨w.heap.size, 0, none⟩) 0 n) 0 []) (hg : w.grownBy w' none) : Fresh (rowT 0 e z (.slice (some ⟨w.heap.size, 0, none⟩) 0 n) 0 []) w w' :=
  ⟨_, ⟨h, rfl⟩, ((Moved.refl (fun _ => False) w).grown hg (fun k hk => by cases hk)).below (Nat.le_refl _) (fun _ hk => hk.elim), fun k hk => by simp [Value.ownBlock] at hk; omega⟩

theorem take_map {α β : Type} (f : α → β) (L : List α) (k : Nat) (d : α) (h : k < L.length) : (L.map f).take k ++ [f (L.getD k d)] = (L.map f).take (k + 1) := by
  rw [← List.map_take, ← List.map_take, take_snoc L k d h, List.map_append]
  rfl

theorem news_one (w : World) (v : Value) (t : Nat) : ∀ j x, [v][j]? = some x → (w.alloc (.cells #[v] t)).cell? ((⟨w.heap.size, 0, none⟩ : Addr).add j) = some x := by
  intro j x hx
  rw [add_own, World.cell?_alloc_new]
  simpa using hx

theorem news_three (w : World) (u v x : Value) (t : Nat) : ∀ j y, [u, v, x][j]? = some y → (w.alloc (.cells #[u, v, x] t)).cell? ((⟨w.heap.size, 0, none⟩ : Addr).add j) = some y := by
  intro j y hy
  rw [add_own, World.cell?_alloc_new]
  simpa using hy

set_option maxRecDepth 100000 in
set_option maxHeartbeats 4000000 in
theorem told_name (L : List Fl) (a : Option Addr) (n c : Nat) (w : World) (h : FilesAt w a L) (hl : L.length = n) (hn : n ≤ 1000) :
    Calls Tryz.prog 20 #[.slice a n c, .func (.func 34) #[] #[]] w (StrsBack (L.map (·.name)) n w) := by
  obtain ⟨i0, hi0, hz0, hz1, hz2⟩ := info_parts infoS
  have HF := Lib.hid (fun W (hb : Below w.heap.size w W) => FilesAt.below h hb)
  have HL := Lib.hid hl
  clear h hl
  go_enter Tryz.func20, Tryz.ntmps20
  go_wp2_with (at_make; refine wpList_make_own _ rfl _ _ 49 rfl 0 9 i0 (.string ⟨#[]⟩) 1 Tryz.underlying49 hi0 hz0 hz1 .i64 .i64 _ n rfl rfl rfl (by rw [hz2]; omega) (by unfold maxLen; omega) (Nat.zero_le _) ?mk)
  case mk =>
    intro w1 ho hg
    have HC := Lib.hid ((Crew.start w).more (fresh_made ho hg))
    clear ho hg
    go_wp2
    go_loopw [5, 13] (fun v i wr => ∃ (k : Nat), i = .int .i64 k ∧ k ≤ n ∧ Crew (fun _ => False) w [rowT 0 9 1 v k ((L.map fun f => Value.string f.name).take k)] wr) (fun _ i _ => (n - intOf i).toNat)
    case atStart => exact ⟨0, rfl, Nat.zero_le _, HC.out⟩
    case round =>
      obtain ⟨k, rfl, hk, HR⟩ := hrel
      clear HC
      by_cases hlt : k < n
      · have hltI : (k : Int) < n := by omega
        obtain ⟨x, rfl, c0, c1, p, cp, c2, hs⟩ := HF.out wr HR.bel k (by rw [HL.out]; exact hlt)
        have HM := Lib.hid (take_map (fun f : Fl => Value.string f.name) L k default (by rw [HL.out]; exact hlt))
        have hmem : L.getD k default ∈ L := by
          have hkl : k < L.length := by rw [HL.out]; exact hlt
          rw [List.getD_eq_getElem?_getD, List.getElem?_eq_getElem hkl]
          exact List.getElem_mem hkl
        have HMM := Lib.hid hmem
        clear hmem
        generalize L.getD k default = f at *
        have hdb := (Below.refl wr.heap.size wr).alloc (Nat.le_refl _) (.cells #[.string f.name, .int .i64 f.size, .slice p f.spans.length cp] 40)
        have HD := Lib.hid (HR.block #[.string f.name, .int .i64 f.size, .slice p f.spans.length cp] 40)
        have HSP := Lib.hid (SpansAt.below hs hdb)
        have d0 := (HD.out.at 1 rfl (j := 0) rfl).1
        have d1 := (HD.out.at 1 rfl (j := 1) rfl).1
        have d2 := (HD.out.at 1 rfl (j := 2) rfl).1
        clear HR hs hdb
        go_wp2_with fail
        refine (name_any f.name f.size _ _).mono ?_
        rintro e w2 ⟨rfl, hb⟩
        have HE := Lib.hid ((HD.out.below hb).below ((Below.refl _ w2).alloc (Nat.le_refl _) (.cells #[Value.string f.name] 9)))
        clear HD d0 d1 d2 hb
        go_wp2_with (at_builtin; refine wpList_append_crew HE.out 0 rfl rfl (.tmp 17) (.tmp 21) 49 rfl (.string ⟨#[]⟩) 16 Tryz.underlying49 infoS rfl (by decide) rfl ⟨w2.heap.size, 0, none⟩ 1 1 [Value.string f.name] rfl rfl (news_one w2 _ _) (by simp [Value.oneCell']) (by unfold maxLen; omega) (by omega) ?ap)
        case ap =>
          intro v' w3 hc
          have HG := Lib.hid (hc.pick [0] (by decide) rfl)
          clear hc HE
          go_wp2
          refine ⟨⟨k + 1, by go_num, by omega, ?_⟩, by simp [intOf]; omega⟩
          rw [← HM.out]
          exact HG.out
      · obtain rfl : k = n := by omega
        have hltI : ¬ (k : Int) < k := by omega
        obtain ⟨a', c', rfl⟩ := HR.slice 0 rfl
        have HB := Lib.hid HR.bel
        have HO := Lib.hid (HR.own 0 rfl)
        clear HR
        go_wp2
        go_ret
        refine ⟨a', c', rfl, ?_, HB.out, own_addr HO.out⟩
        have ho := HO.out
        rw [List.take_of_length_le (by rw [List.length_map, HL.out]; exact Nat.le_refl _)] at ho
        refine (strs_own (S := L.map (·.name)) (base := 0) (e := 9) (n := k) (c := c') ?_).2
        rw [List.map_map]
        exact ho

set_option maxRecDepth 100000 in
set_option maxHeartbeats 4000000 in
theorem told_spans (L : List Fl) (a : Option Addr) (n c : Nat) (w : World) (h : FilesAt w a L) (hl : L.length = n) (hn : n ≤ 1000) :
    Calls Tryz.prog 28 #[.slice a n c, .func (.func 29) #[] #[]] w (RowsBack (L.map (·.spans)) n w) := by
  obtain ⟨i0, hi0, hz0, hz1, hz2⟩ := info_parts infoRow
  have HF := Lib.hid (fun W (hb : Below w.heap.size w W) => FilesAt.below h hb)
  have HF0 := Lib.hid h
  have HL := Lib.hid hl
  clear h hl
  go_enter Tryz.func28, Tryz.ntmps28
  go_wp2_with (at_make; refine wpList_make_own _ rfl _ _ 57 rfl 0 23 i0 (.slice none 0 0) 1 Tryz.underlying57 hi0 hz0 hz1 .i64 .i64 _ n rfl rfl rfl (by rw [hz2]; omega) (by unfold maxLen; omega) (Nat.zero_le _) ?mk)
  case mk =>
    intro w1 ho hg
    have HC := Lib.hid ((Crew.start w).more (fresh_made ho hg))
    clear ho hg
    go_wp2
    go_loopw [5, 13] (fun v i wr => ∃ (k : Nat) (R : List FR), i = .int .i64 k ∧ k ≤ n ∧ Hid (R.map (·.1) = L.take k ∧ (∀ r ∈ R, SpansAt w r.2.1 r.1.spans)) ∧ Crew (fun _ => False) w [rowT 0 23 1 v k (R.map rowC)] wr) (fun _ i _ => (n - intOf i).toNat)
    case atStart => exact ⟨0, [], rfl, Nat.zero_le _, ⟨rfl, fun r hr => by cases hr⟩, HC.out⟩
    case round =>
      obtain ⟨k, R, rfl, hk, HI, HR⟩ := hrel
      clear HC
      by_cases hlt : k < n
      · have hltI : (k : Int) < n := by omega
        obtain ⟨x, rfl, e0, e1, p, cp, e2, hs⟩ := HF0.out k (by rw [HL.out]; exact hlt)
        have c0 := keeps HR.bel _ _ e0
        have c1 := keeps HR.bel _ _ e1
        have c2 := keeps HR.bel _ _ e2
        have HJ : Hid ((R ++ [(L.getD k default, p, cp)]).map (·.1) = L.take (k + 1) ∧ ∀ r ∈ R ++ [(L.getD k default, p, cp)], SpansAt w r.2.1 r.1.spans) := by
          refine ⟨?_, fun r hr => ?_⟩
          · rw [List.map_append, HI.out.1, take_snoc L k default (by rw [HL.out]; exact hlt)]
            rfl
          · rw [List.mem_append, List.mem_singleton] at hr
            rcases hr with hr | rfl
            · exact HI.out.2 r hr
            · exact hs
        generalize L.getD k default = f at *
        have HD := Lib.hid (HR.block #[.string f.name, .int .i64 f.size, .slice p f.spans.length cp] 40)
        have d0 := (HD.out.at 1 rfl (j := 0) rfl).1
        have d1 := (HD.out.at 1 rfl (j := 1) rfl).1
        have d2 := (HD.out.at 1 rfl (j := 2) rfl).1
        clear HR hs e0 e1 e2
        go_wp2_with fail
        refine (spans_any f.name f.size _ _).mono ?_
        rintro e w2 ⟨rfl, hb⟩
        have HE := Lib.hid ((HD.out.below hb).below ((Below.refl _ w2).alloc (Nat.le_refl _) (.cells #[.slice p f.spans.length cp] 23)))
        clear HD d0 d1 d2 hb
        go_wp2_with (at_builtin; refine wpList_append_crew HE.out 0 rfl rfl (.tmp 17) (.tmp 21) 57 rfl (.slice none 0 0) 24 Tryz.underlying57 infoRow rfl (by decide) rfl ⟨w2.heap.size, 0, none⟩ 1 1 [.slice p f.spans.length cp] rfl rfl (news_one w2 _ _) (by simp [Value.oneCell']) (by unfold maxLen; omega) (by omega) ?ap)
        case ap =>
          intro v' w3 hc
          have HG : Hid (Crew (fun _ => False) w [rowT 0 23 1 v' (k + 1) ((R ++ [(f, p, cp)]).map rowC)] w3) := by
            unfold Hid
            rw [List.map_append]
            exact hc.pick [0] (by decide) rfl
          clear hc HE
          go_wp2
          exact ⟨⟨k + 1, R ++ [(f, p, cp)], by go_num, by omega, HJ, HG.out⟩, by simp [intOf]; omega⟩
      · obtain rfl : k = n := by omega
        have hltI : ¬ (k : Int) < k := by omega
        obtain ⟨a', c', rfl⟩ := HR.slice 0 rfl
        have HB := Lib.hid HR.bel
        have HO := Lib.hid (HR.own 0 rfl)
        clear HR
        go_wp2
        go_ret
        refine ⟨a', c', rfl, ?_, HB.out⟩
        have ho := (rows_own HO.out (fun r hr => SpansAt.below (HI.out.2 r hr) HB.out)).2
        rw [show (fun r : FR => r.1.spans) = (fun f : Fl => f.spans) ∘ (fun r : FR => r.1) from rfl, ← List.map_map, HI.out.1, List.take_of_length_le (Nat.le_of_eq HL.out)] at ho
        exact ho

end Go.Proofs.YteellffkjjllgaaGreat

namespace Go.Proofs
open Go.Shelf
def Tryz.lays169_ren : Go.Shelf.Ren := ⟨fun | 169 => 40 | n => n, fun | 70 => 72 | 9 => 9 | 0 => 0 | 72 => 74 | 37 => 71 | 127 => 103 | 3 => 3 | 5 => 5 | n => n, fun | n => n⟩
theorem Tryz.lays169 : Go.Proofs.Lays.n169 Tryz.prog Tryz.lays169_ren := {
  mixed := by kernel_rfl
  f169 := Tryz.func40.trans (congrArg some (by kernel_rfl))
  t0 := Tryz.underlying0
  a0 := Tryz.isAgg0
  z0 := Tryz.sizeOf0
  v0 := Tryz.zeroValue0
  t3 := Tryz.underlying3
  a3 := Tryz.isAgg3
  z3 := Tryz.sizeOf3
  v3 := Tryz.zeroValue3
  t9 := Tryz.underlying9
  a9 := Tryz.isAgg9
  z9 := Tryz.sizeOf9
  v9 := Tryz.zeroValue9
  t37 := Tryz.underlying71
  a37 := Tryz.isAgg71
  z37 := Tryz.sizeOf71
  v37 := Tryz.zeroValue71
  t70 := Tryz.underlying72
  a70 := Tryz.isAgg72
  z70 := Tryz.sizeOf72
  v70 := Tryz.zeroValue72
  t72 := Tryz.underlying74
  a72 := Tryz.isAgg74
  z72 := Tryz.sizeOf74
  v72 := Tryz.zeroValue74
  t127 := Tryz.underlying103
  a127 := Tryz.isAgg103
  z127 := Tryz.sizeOf103
  v127 := Tryz.zeroValue103 }
theorem Tryz.Builder_Extra_169 : Builder.Extra Tryz.prog Tryz.lays169_ren := {
  sizeBuilder := by kernel_rfl
  liesBuilder := by kernel_rfl
  t5 := Tryz.underlying5
  a5 := Tryz.isAgg5
  z5 := Tryz.sizeOf5
  v5 := Tryz.zeroValue5
  infoByte := by kernel_rfl
  cellsByte := by kernel_rfl
  sizeByte := by kernel_rfl
  neB5 := by decide }
def Tryz.lays156_ren : Go.Shelf.Ren := ⟨fun | 156 => 19 | 165 => 38 | 166 => 39 | 169 => 40 | 240 => 58 | 241 => 59 | 276 => 78 | 277 => 79 | n => n, fun | 31 => 49 | 9 => 9 | 3 => 3 | 4 => 4 | 0 => 0 | 20 => 20 | 72 => 74 | 76 => 78 | 70 => 72 | 37 => 71 | 75 => 77 | 127 => 103 | 164 => 115 | 5 => 5 | 80 => 52 | n => n, fun | n => n⟩
theorem Tryz.lays156 : Go.Proofs.Lays.n156 Tryz.prog Tryz.lays156_ren := {
  mixed := by kernel_rfl
  f156 := Tryz.func19.trans (congrArg some (by kernel_rfl))
  f165 := Tryz.func38.trans (congrArg some (by kernel_rfl))
  f166 := Tryz.func39.trans (congrArg some (by kernel_rfl))
  f169 := Tryz.func40.trans (congrArg some (by kernel_rfl))
  f240 := Tryz.func58.trans (congrArg some (by kernel_rfl))
  f241 := Tryz.func59.trans (congrArg some (by kernel_rfl))
  f276 := Tryz.func78.trans (congrArg some (by kernel_rfl))
  f277 := Tryz.func79.trans (congrArg some (by kernel_rfl))
  t0 := Tryz.underlying0
  a0 := Tryz.isAgg0
  z0 := Tryz.sizeOf0
  v0 := Tryz.zeroValue0
  t3 := Tryz.underlying3
  a3 := Tryz.isAgg3
  z3 := Tryz.sizeOf3
  v3 := Tryz.zeroValue3
  t4 := Tryz.underlying4
  a4 := Tryz.isAgg4
  z4 := Tryz.sizeOf4
  v4 := Tryz.zeroValue4
  t9 := Tryz.underlying9
  a9 := Tryz.isAgg9
  z9 := Tryz.sizeOf9
  v9 := Tryz.zeroValue9
  t20 := Tryz.underlying20
  a20 := Tryz.isAgg20
  z20 := Tryz.sizeOf20
  v20 := Tryz.zeroValue20
  t31 := Tryz.underlying49
  a31 := Tryz.isAgg49
  z31 := Tryz.sizeOf49
  v31 := Tryz.zeroValue49
  t37 := Tryz.underlying71
  a37 := Tryz.isAgg71
  z37 := Tryz.sizeOf71
  v37 := Tryz.zeroValue71
  t70 := Tryz.underlying72
  a70 := Tryz.isAgg72
  z70 := Tryz.sizeOf72
  v70 := Tryz.zeroValue72
  t72 := Tryz.underlying74
  a72 := Tryz.isAgg74
  z72 := Tryz.sizeOf74
  v72 := Tryz.zeroValue74
  t75 := Tryz.underlying77
  a75 := Tryz.isAgg77
  z75 := Tryz.sizeOf77
  v75 := Tryz.zeroValue77
  t76 := Tryz.underlying78
  a76 := Tryz.isAgg78
  z76 := Tryz.sizeOf78
  v76 := Tryz.zeroValue78
  t127 := Tryz.underlying103
  a127 := Tryz.isAgg103
  z127 := Tryz.sizeOf103
  v127 := Tryz.zeroValue103
  t164 := Tryz.underlying115
  a164 := Tryz.isAgg115
  z164 := Tryz.sizeOf115
  v164 := Tryz.zeroValue115 }
theorem Tryz.Builder_Extra_156 : Builder.Extra Tryz.prog Tryz.lays156_ren := {
  sizeBuilder := by kernel_rfl
  liesBuilder := by kernel_rfl
  t5 := Tryz.underlying5
  a5 := Tryz.isAgg5
  z5 := Tryz.sizeOf5
  v5 := Tryz.zeroValue5
  infoByte := by kernel_rfl
  cellsByte := by kernel_rfl
  sizeByte := by kernel_rfl
  neB5 := by decide }
open Go.RowKit in
theorem Tryz.strings_Join_none (a : Option Addr) (c : Nat) (sep : ByteArray) (w : World) :
    Calls Tryz.prog 19 #[.slice a 0 c, .string sep] w fun e w' => e = .returned (.string ⟨#[]⟩) ∧ w' = w := Any.strings_Join_none Tryz.lays156 Tryz.Builder_Extra_156 a c sep w
open Go.RowKit in
theorem Tryz.strings_Join (bk o c : Nat) (xs : List ByteArray) (sep : ByteArray) (w : World) (hcells : ∀ (j : Nat) x, xs[j]? = some x → w.cell? ⟨bk, o + j, none⟩ = some (.string x)) (hbk : bk < w.heap.size) (hN : xs.length ≤ 140737488355328) (hcap : xs.length ≤ c) (hlen : (Lib.join (xs.map (·.data.toList)) sep.data.toList).length ≤ 140737488355328) :
    Calls Tryz.prog 19 #[.slice (some ⟨bk, o, none⟩) xs.length c, .string sep] w fun e w' => e = .returned (.string ⟨(Lib.join (xs.map (·.data.toList)) sep.data.toList).toArray⟩) ∧ Below w.heap.size w w' := Any.strings_Join Tryz.lays156 Tryz.Builder_Extra_156 bk o c xs sep w hcells hbk hN hcap hlen
open Go.RowKit in
theorem Tryz.Builder_String_any_k (B b : Nat) (l : List UInt8) (w : World) (h : Lib.IsBuilderF 74 5 B b (Lib.byteCells l) w) (hBw : B ≤ w.heap.size) :
    Calls Tryz.prog 40 #[.pointer (some ⟨b, 0, none⟩)] w fun e w' => e = .returned (.string ⟨l.toArray⟩) ∧ (Lib.IsBuilderF 74 5 B b (Lib.byteCells l) w' ∧ Below B w w' ∧ Lib.OthersKept 5 (some b) w w') := Any.Builder_String_any_k Tryz.lays169 Tryz.Builder_Extra_169 B b l w h hBw
def Tryz.lays99_ren : Go.Shelf.Ren := ⟨fun | 99 => 85 | 206 => 98 | n => n, fun | 9 => 9 | 4 => 4 | 3 => 3 | n => n, fun | n => n⟩
theorem Tryz.lays99 : Go.Proofs.Lays.n99 Tryz.prog Tryz.lays99_ren := {
  mixed := by kernel_rfl
  f99 := Tryz.func85.trans (congrArg some (by kernel_rfl))
  f206 := Tryz.func98.trans (congrArg some (by kernel_rfl))
  t3 := Tryz.underlying3
  a3 := Tryz.isAgg3
  z3 := Tryz.sizeOf3
  v3 := Tryz.zeroValue3
  t4 := Tryz.underlying4
  a4 := Tryz.isAgg4
  z4 := Tryz.sizeOf4
  v4 := Tryz.zeroValue4
  t9 := Tryz.underlying9
  a9 := Tryz.isAgg9
  z9 := Tryz.sizeOf9
  v9 := Tryz.zeroValue9 }
open Go.RowKit Go.Lib in
theorem Tryz.strings_HasPrefix (s p : ByteArray) (w : World) :
    Calls Tryz.prog 85 #[.string s, .string p] w fun e w' => e = .returned (.bool (Lib.hasPrefix s.data.toList p.data.toList)) ∧ w' = w := Any.strings_HasPrefix Tryz.lays99 s p w
end Go.Proofs

namespace Go.Proofs.YteellffkjjllgaaGreat
open Go.RowKit

theorem drop_ne {s : ByteArray} {pos : Nat} (h : pos < s.size) : s.data.toList.drop pos ≠ [] := by
  intro e
  have := congrArg List.length e
  simp at this
  have : s.data.size = s.size := rfl
  omega

theorem drop_size (s : ByteArray) (pos : Nat) : (s.data.toList.drop pos).length = s.size - pos := by
  simp

theorem extract_list (s : ByteArray) (a : Nat) : (s.extract a s.size).data.toList = s.data.toList.drop a := by
  rw [ByteArray.data_extract, Array.toList_extract, List.extract_eq_take_drop]
  exact List.take_of_length_le (by rw [drop_size]; exact Nat.le_refl _)

set_option maxHeartbeats 400000 in
theorem wrong_any (s : ByteArray) (pos : Nat) (hp : pos < s.size) (_hs : s.size ≤ 9223372036854775807) (w : World) :
    Calls Tryz.prog 76 #[.string s, .int .i64 pos, .int .i32 (Utf8.decode s pos).1] w fun e w' => e = .returned (.bool (Rc1.wr (s.data.toList.drop pos))) ∧ w = w' := by
  have hw := Rc1.wr_eq (s.data.toList.drop pos) (drop_ne hp)
  rw [← Rc1.decode_eq] at hw
  by_cases h1 : (Utf8.decode s pos).1 = 65533
  · have HW := Lib.hid hw
    have h2 : (((Utf8.decode s pos).1 : Int) == 65533) = true := by rw [h1]; rfl
    have H1 := Lib.hid h1
    clear hw h1
    go_enter Tryz.func76, Tryz.ntmps76
    go_wp2_with (go_at_call 85; refine (Tryz.strings_HasPrefix _ _ _).mono ?_; rintro e w' ⟨rfl, rfl⟩)
    go_ret
    refine ⟨?_, rfl⟩
    rw [HW.out]
    simp [H1.out, Lib.hasPrefix]
    rw [List.take_of_length_le (by rw [drop_size]; exact Nat.le_refl _)]
  · have HW := Lib.hid hw
    have h2 : (((Utf8.decode s pos).1 : Int) == 65533) = false := by rw [beq_eq_false_iff_ne]; omega
    have H1 := Lib.hid h1
    clear hw h1
    go_enter Tryz.func76, Tryz.ntmps76
    go_wp2
    go_ret
    refine ⟨?_, rfl⟩
    rw [HW.out]
    simp [H1.out]

theorem bt_at (s : ByteArray) (pos : Nat) (hp : pos < s.size) : Rc1.bt (s.data.toList.drop pos) 0 = (s[pos]'hp).toNat := by
  have hp' : pos < s.data.size := hp
  rw [Rc1.bt_drop]
  simp [Rc1.bt, List.getD_eq_getElem?_getD, Array.getElem?_eq_getElem hp']
  rfl

theorem isEmpty_of (s : ByteArray) : s.toList.isEmpty = decide (s.size = 0) := by
  rw [ByteArray.toList_eq, Bool.eq_iff_iff]
  simp only [List.isEmpty_iff, decide_eq_true_eq]
  rw [← List.length_eq_zero_iff, Array.length_toList]
  rfl

theorem nil_of (s : ByteArray) (h : s.size = 0) : s.data.toList = [] := by
  rw [← List.length_eq_zero_iff, Array.length_toList]; exact h

end Go.Proofs.YteellffkjjllgaaGreat

namespace Go.Proofs.YteellffkjjllgaaGreat
open Go.RowKit

theorem len_data (s : ByteArray) : s.data.toList.length = s.size := by simp

theorem below_iter (w : World) (s : ByteArray) (pos : Nat) : Below w.heap.size w (w.iter s pos) := (Below.refl _ w).alloc (Nat.le_refl _) _

theorem right_long {l : List UInt8} (h : 24 < Rc1.count l) : Rc1.right l = false := by
  unfold Rc1.right
  rw [show decide (1 ≤ Rc1.count l ∧ Rc1.count l ≤ 24) = false from decide_eq_false (by omega)]; rfl

theorem right_bad {l : List UInt8} (h : (Rc1.cut l).all Rc1.okc = false) : Rc1.right l = false := by
  unfold Rc1.right
  rw [h]; simp

theorem get_bt (s : ByteArray) (k : Nat) (h : k < s.size) : Rc1.bt s.data.toList k = (s[k]'h).toNat := by
  have := bt_at s k h
  rw [Rc1.bt_drop] at this; exact this

theorem right_end {s : ByteArray} {m : Nat} (hm : m = Rc1.count s.data.toList) (h24 : m ≤ 24) (hal : (Rc1.cut s.data.toList).all Rc1.okc = true) (h0 : 0 < m) (hs : 0 < s.size) :
    Rc1.right s.data.toList = (((s[0]'hs).toNat : Int) != 32 && ((s[s.size - 1]'(by omega)).toNat : Int) != 32) := by
  unfold Rc1.right
  rw [← hm, hal, decide_eq_true (by omega), len_data, get_bt s 0 hs, get_bt s (s.size - 1) (by omega)]
  simp only [Bool.true_and]
  congr 1 <;> (rw [Bool.eq_iff_iff]; simp only [decide_eq_true_eq, bne_iff_ne, ne_eq]; omega)

set_option maxHeartbeats 1000000 in
theorem Right_any (s : ByteArray) (hs : s.size ≤ 9223372036854775807) (w : World) :
    Calls Tryz.prog 54 #[.string s] w fun e w' => e = .returned (.bool (Rc1.right s.data.toList)) ∧ Below w.heap.size w w' := by
  have HL := Lib.hid (len_data s)
  go_enter Tryz.func54, Tryz.ntmps54
  go_wp2
  go_loopw [3, 4, 5] (fun k _ _ w' => ∃ (pos m : Nat), w' = w.iter s pos ∧ k = .int .i64 m ∧ Rc1.At s.data.toList pos m ∧ m ≤ 24 ∧ Hid (((Rc1.cut s.data.toList).take m).all Rc1.okc = true)) (fun _ _ _ w' => s.size - w'.iterPos w.heap.size)
  case atStart => exact ⟨0, 0, rfl, rfl, Rc1.At.zero _, Nat.zero_le _, rfl⟩
  case round =>
    obtain ⟨pos, m, rfl, rfl, hA, h24, hal⟩ := hrel
    have hps := hA.1
    rw [HL.out] at hps
    have HA := Lib.hid hA
    clear hA
    by_cases hp : pos < s.size
    · have hnx : ∀ ty, (Instr.next (.pointer (some ⟨w.heap.size, 0, none⟩)) true ty).run Tryz.prog (w.iter s pos) = _ := fun ty => run_next_any w s pos ty hp
      have HWc := Lib.hid (wrong_any s pos hp hs)
      have HDE := Lib.hid (Rc1.decode_eq s pos)
      have hlt : pos < s.data.toList.length := by rw [HL.out]; exact hp
      have bad : Rc1.okc (s.data.toList.drop pos) = false → Rc1.right s.data.toList = false := fun h => right_bad (HA.out.bad hlt _ Rc1.okc_take h)
      have BAD := Lib.hid bad
      have HLT := Lib.hid hlt
      clear bad hlt
      by_cases hc1 : m = 24
      · have HC1 := Lib.hid hc1
        have hc1' : decide (24 < (m : Int) + 1) = true := decide_eq_true (by omega)
        have hc1'' : 24 < (m : Int) + 1 := by omega
        clear hc1
        go_wp2
        go_ret
        rw [right_long (by have := HA.out.count_lt HLT.out; have := HC1.out; omega)]
        exact ⟨rfl, below_iter _ _ _⟩
      · have hc1' : decide (24 < (m : Int) + 1) = false := decide_eq_false (by omega)
        have hc1'' : (m : Int) + 1 ≤ 24 := by omega
        by_cases hc2 : (Utf8.decode s pos).1 < 32
        · have hc2' : decide (((Utf8.decode s pos).1 : Int) < 32) = true := decide_eq_true (by omega)
          have hc2'' : decide ((Utf8.decode s pos).1 < 32) = true := decide_eq_true (by omega)
          have HC2 := Lib.hid hc2
          clear hc2
          go_wp2
          go_ret
          rw [BAD.out (by unfold Rc1.okc; rw [← HDE.out, decide_eq_false (by have := HC2.out; omega)]; rfl)]
          exact ⟨rfl, below_iter _ _ _⟩
        · have hc2' : decide (((Utf8.decode s pos).1 : Int) < 32) = false := decide_eq_false (by omega)
          have hc2'' : decide ((Utf8.decode s pos).1 < 32) = false := decide_eq_false (by omega)
          by_cases hc3 : (Utf8.decode s pos).1 = 127
          · have hc3' : (((Utf8.decode s pos).1 : Int) == 127) = true := by rw [hc3]; rfl
            have HC3 := Lib.hid hc3
            clear hc3
            go_wp2
            go_ret
            rw [BAD.out (by unfold Rc1.okc; rw [← HDE.out, HC3.out]; rfl)]
            exact ⟨rfl, below_iter _ _ _⟩
          · have hc3' : (((Utf8.decode s pos).1 : Int) == 127) = false := by rw [beq_eq_false_iff_ne]; omega
            have HC3 := Lib.hid hc3
            clear hc3
            cases hwr : Rc1.wr (s.data.toList.drop pos) with
            | true =>
              have hWc := HWc.out
              rw [hwr] at hWc
              have HWC := Lib.hid hWc
              have HWR := Lib.hid hwr
              clear hWc hwr
              go_wp2_with (go_at_call 76; refine (HWC.out _).mono ?_; rintro e w1 ⟨rfl, rfl⟩)
              go_ret
              rw [BAD.out (by unfold Rc1.okc; rw [HWR.out]; simp)]
              exact ⟨rfl, below_iter _ _ _⟩
            | false =>
              have hWc := HWc.out
              rw [hwr] at hWc
              have HWC := Lib.hid hWc
              have HWR := Lib.hid hwr
              clear hWc hwr
              go_wp2_with (go_at_call 76; refine (HWC.out _).mono ?_; rintro e w1 ⟨rfl, rfl⟩)
              go_roundw
              case rel =>
                refine ⟨_, m + 1, rfl, by go_num, by rw [Rc1.decode_eq]; exact HA.out.step HLT.out, by omega, ?_⟩
                show _ = true
                rw [HA.out.all HLT.out _ Rc1.okc_take, hal.out]
                unfold Rc1.okc
                rw [HWR.out, ← HDE.out, decide_eq_true (by omega), decide_eq_false HC3.out]; rfl
              case measure =>
                have := Rc1.dec_pos _ (drop_ne hp)
                rw [← Rc1.decode_eq] at this
                simp; omega
    · have hnx : ∀ ty, (Instr.next (.pointer (some ⟨w.heap.size, 0, none⟩)) true ty).run Tryz.prog (w.iter s pos) = _ := fun ty => run_next_end w s pos ty hp
      have hmc := HA.out.over (by rw [HL.out]; exact hp)
      have h2 := hal.out
      rw [hmc, List.take_length] at h2
      have H2 := Lib.hid h2
      have HMC := Lib.hid hmc
      clear h2 hmc
      by_cases hm0 : m = 0
      · subst hm0
        go_wp2
        go_ret
        refine ⟨?_, below_iter _ _ _⟩
        unfold Rc1.right Rc1.count
        rw [← HMC.out]; rfl
      · have h0 : 0 < s.size := by have := HA.out.2.2.1; omega
        have hE := right_end (s := s) HMC.out h24 H2.out (by omega) h0
        have HE := Lib.hid hE
        have hm0' : 0 < (m : Int) := by omega
        clear hE
        cases h32 : (((s[0]'h0).toNat : Int) != 32) with
        | false =>
          go_wp2
          go_ret
          refine ⟨?_, below_iter _ _ _⟩
          rw [HE.out, h32]; rfl
        | true =>
          have hl1 : (1 : Int) ≤ s.size := by omega
          go_wp2
          go_ret
          refine ⟨?_, below_iter _ _ _⟩
          rw [HE.out, h32]; rfl

end Go.Proofs.YteellffkjjllgaaGreat

namespace Go.Proofs.YteellffkjjllgaaGreat
open Go.RowKit

theorem mB_eq (s : ByteArray) (i : Nat) (h : i < s.size) : Rc1.mB s.data.toList i = (decide (128 ≤ (s[i]'h).toNat) && decide ((s[i]'h).toNat ≤ 191)) := by
  unfold Rc1.mB
  rw [get_bt s i h, len_data, Bool.eq_iff_iff]
  simp only [decide_eq_true_eq, Bool.and_eq_true]
  omega

theorem mB_out (s : ByteArray) (i : Nat) (h : ¬ i < s.size) : Rc1.mB s.data.toList i = false := by
  unfold Rc1.mB; rw [len_data]; exact decide_eq_false (by omega)

set_option maxHeartbeats 400000 in
theorem more_any (s : ByteArray) (i : Nat) (_hs : s.size ≤ 140737488355328) (_hi : i ≤ 8) (w : World) :
    Calls Tryz.prog 99 #[.string s, .int .i64 i] w fun e w' => e = .returned (.bool (Rc1.mB s.data.toList i)) ∧ w = w' := by
  by_cases h : i < s.size
  · have HM := Lib.hid (mB_eq s i h)
    by_cases h1 : 128 ≤ (s[i]'h).toNat
    · have h1' : decide (128 ≤ (s[i]'h).toNat) = true := decide_eq_true h1
      go_enter Tryz.func99, Tryz.ntmps99
      go_wp2
      go_ret
      rw [HM.out, h1']
      refine ⟨?_, rfl⟩
      simp
      omega
    · have h1' : decide (128 ≤ (s[i]'h).toNat) = false := decide_eq_false h1
      go_enter Tryz.func99, Tryz.ntmps99
      go_wp2
      go_ret
      rw [HM.out, h1']
      exact ⟨rfl, rfl⟩
  · have HM := Lib.hid (mB_out s i h)
    go_enter Tryz.func99, Tryz.ntmps99
    go_wp2
    go_ret
    rw [HM.out]
    exact ⟨rfl, rfl⟩

theorem more1 (s : ByteArray) (hs : s.size ≤ 140737488355328) (b : Bool) (h : Rc1.mB s.data.toList 1 = b) (w : World) : Calls Tryz.prog 99 #[.string s, .int .i64 1] w fun e w' => e = .returned (.bool b) ∧ w = w' := by
  have := more_any s 1 hs (by omega) w
  rwa [h] at this
theorem more2 (s : ByteArray) (hs : s.size ≤ 140737488355328) (b : Bool) (h : Rc1.mB s.data.toList 2 = b) (w : World) : Calls Tryz.prog 99 #[.string s, .int .i64 2] w fun e w' => e = .returned (.bool b) ∧ w = w' := by
  have := more_any s 2 hs (by omega) w
  rwa [h] at this
theorem more3 (s : ByteArray) (hs : s.size ≤ 140737488355328) (b : Bool) (h : Rc1.mB s.data.toList 3 = b) (w : World) : Calls Tryz.prog 99 #[.string s, .int .i64 3] w fun e w' => e = .returned (.bool b) ∧ w = w' := by
  have := more_any s 3 hs (by omega) w
  rwa [h] at this

theorem ret2_of {a b c d : Int} (h : (a, b) = (c, d)) : Ending.returned (.tuple #[.int .i64 c, .int .i64 d]) = .returned (.tuple #[.int .i64 a, .int .i64 b]) := by
  simp only [Prod.mk.injEq] at h; rw [h.1, h.2]

set_option maxHeartbeats 4000000 in
set_option maxRecDepth 100000 in
theorem Rune_any (s : ByteArray) (h0 : 0 < s.size) (hs : s.size ≤ 140737488355328) (w : World) :
    Calls Tryz.prog 87 #[.string s] w fun e w' => e = .returned (.tuple #[.int .i64 (Rc1.rr s.data.toList).1, .int .i64 (Rc1.rr s.data.toList).2]) ∧ Below w.heap.size w w' := by
  have hb0 : (s[0]'h0).toNat < 256 := UInt8.toNat_lt _
  have G0 := Lib.hid (get_bt s 0 h0)
  have hB := Below.refl w.heap.size w
  by_cases l1 : (s[0]'h0).toNat < 128
  · have HR := Lib.hid (Rc1.rr1 (l := s.data.toList) (by rw [G0.out]; exact l1))
    go_enter Tryz.func87, Tryz.ntmps87
    go_wp2
    go_ret2
    refine ⟨ret2_of (by rw [HR.out, G0.out]), hB⟩
  · have HM1 := Lib.hid (fun b h => more1 s hs b h)
    have HM2 := Lib.hid (fun b h => more2 s hs b h)
    have HM3 := Lib.hid (fun b h => more3 s hs b h)
    by_cases l2 : (s[0]'h0).toNat < 194
    · have HR := Lib.hid (Rc1.rr0 (l := s.data.toList) (by rw [G0.out]; omega) (fun h => by rw [G0.out] at h; first | omega | exact m1) (fun h => by rw [G0.out] at h; first | omega | exact .inl m1 | exact .inr (.inl m2) | (rw [G0.out, get_bt s 1 z1, get_bt s 2 z2]; omega)) (fun h => by rw [G0.out] at h; first | omega | exact .inl m1 | exact .inr (.inl m2) | exact .inr (.inr (.inl m3)) | (rw [G0.out, get_bt s 1 z1, get_bt s 2 z2, get_bt s 3 z3]; omega)))
      go_enter Tryz.func87, Tryz.ntmps87
      go_wp2
      go_ret2
      exact ⟨ret2_of HR.out, hB⟩
    · by_cases l3 : (s[0]'h0).toNat ≤ 223
      · cases m1 : Rc1.mB s.data.toList 1 with
        | false =>
          have HR := Lib.hid (Rc1.rr0 (l := s.data.toList) (by rw [G0.out]; omega) (fun h => by rw [G0.out] at h; first | omega | exact m1) (fun h => by rw [G0.out] at h; first | omega | exact .inl m1 | exact .inr (.inl m2) | (rw [G0.out, get_bt s 1 z1, get_bt s 2 z2]; omega)) (fun h => by rw [G0.out] at h; first | omega | exact .inl m1 | exact .inr (.inl m2) | exact .inr (.inr (.inl m3)) | (rw [G0.out, get_bt s 1 z1, get_bt s 2 z2, get_bt s 3 z3]; omega)))
          have M1 := Lib.hid (HM1.out _ m1)
          clear m1 HM1 HM2 HM3
          go_enter Tryz.func87, Tryz.ntmps87
          go_wp2_with (go_at_call 99; ((with_reducible refine (M1.out _).mono ?_)); rintro e w1 ⟨rfl, rfl⟩)
          go_ret2
          exact ⟨ret2_of HR.out, hB⟩
        | true =>
          have q1 := Rc1.mB_true m1
          rw [len_data] at q1
          have z1 : 1 < s.size := q1.1
          have y1 : (1 : Int) < s.size := by omega
          have b1 : (s[1]'z1).toNat < 256 := UInt8.toNat_lt _
          have k1 := q1.2
          rw [get_bt s 1 z1] at k1
          have HR := Lib.hid (Rc1.rr2 (l := s.data.toList) (by rw [G0.out]; omega) m1)
          rw [G0.out, get_bt s 1 z1] at HR
          have M1 := Lib.hid (HM1.out _ m1)
          clear m1 q1 HM1 HM2 HM3
          go_enter Tryz.func87, Tryz.ntmps87
          go_wp2_with (go_at_call 99; ((with_reducible refine (M1.out _).mono ?_)); rintro e w1 ⟨rfl, rfl⟩)
          go_ret2
          exact ⟨ret2_of HR.out, hB⟩
      · by_cases l4 : (s[0]'h0).toNat ≤ 239
        · cases m1 : Rc1.mB s.data.toList 1 with
          | false =>
            have HR := Lib.hid (Rc1.rr0 (l := s.data.toList) (by rw [G0.out]; omega) (fun h => by rw [G0.out] at h; first | omega | exact m1) (fun h => by rw [G0.out] at h; first | omega | exact .inl m1 | exact .inr (.inl m2) | (rw [G0.out, get_bt s 1 z1, get_bt s 2 z2]; omega)) (fun h => by rw [G0.out] at h; first | omega | exact .inl m1 | exact .inr (.inl m2) | exact .inr (.inr (.inl m3)) | (rw [G0.out, get_bt s 1 z1, get_bt s 2 z2, get_bt s 3 z3]; omega)))
            have M1 := Lib.hid (HM1.out _ m1)
            clear m1 HM1 HM2 HM3
            go_enter Tryz.func87, Tryz.ntmps87
            go_wp2_with (first | (go_at_call 99; ((with_reducible refine (M1.out _).mono ?_)); rintro e w1 ⟨rfl, rfl⟩))
            go_ret2
            exact ⟨ret2_of HR.out, hB⟩
          | true =>
            cases m2 : Rc1.mB s.data.toList 2 with
              | false =>
                have HR := Lib.hid (Rc1.rr0 (l := s.data.toList) (by rw [G0.out]; omega) (fun h => by rw [G0.out] at h; first | omega | exact m1) (fun h => by rw [G0.out] at h; first | omega | exact .inl m1 | exact .inr (.inl m2) | (rw [G0.out, get_bt s 1 z1, get_bt s 2 z2]; omega)) (fun h => by rw [G0.out] at h; first | omega | exact .inl m1 | exact .inr (.inl m2) | exact .inr (.inr (.inl m3)) | (rw [G0.out, get_bt s 1 z1, get_bt s 2 z2, get_bt s 3 z3]; omega)))
                have M1 := Lib.hid (HM1.out _ m1)
                have M2 := Lib.hid (HM2.out _ m2)
                clear m1 m2 HM1 HM2 HM3
                go_enter Tryz.func87, Tryz.ntmps87
                go_wp2_with (first | (go_at_call 99; ((with_reducible refine (M1.out _).mono ?_)); rintro e w1 ⟨rfl, rfl⟩) | (go_at_call 99; ((with_reducible refine (M2.out _).mono ?_)); rintro e w1 ⟨rfl, rfl⟩))
                go_ret2
                exact ⟨ret2_of HR.out, hB⟩
              | true =>
                have q1 := Rc1.mB_true m1
                rw [len_data] at q1
                have z1 : 1 < s.size := q1.1
                have y1 : (1 : Int) < s.size := by omega
                have b1 : (s[1]'z1).toNat < 256 := UInt8.toNat_lt _
                have k1 := q1.2
                rw [get_bt s 1 z1] at k1
                have q2 := Rc1.mB_true m2
                rw [len_data] at q2
                have z2 : 2 < s.size := q2.1
                have y2 : (2 : Int) < s.size := by omega
                have b2 : (s[2]'z2).toNat < 256 := UInt8.toNat_lt _
                have k2 := q2.2
                rw [get_bt s 2 z2] at k2
                by_cases g1 : (2048 : Int) ≤ ((((s[0]'h0).toNat : Int) - 224) * 4096 + (((s[1]'z1).toNat : Int) - 128) * 64 + ((s[2]'z2).toNat : Int) - 128 : Int)
                · by_cases g2 : (55296 : Int) ≤ ((((s[0]'h0).toNat : Int) - 224) * 4096 + (((s[1]'z1).toNat : Int) - 128) * 64 + ((s[2]'z2).toNat : Int) - 128 : Int)
                  · by_cases g3 : ((((s[0]'h0).toNat : Int) - 224) * 4096 + (((s[1]'z1).toNat : Int) - 128) * 64 + ((s[2]'z2).toNat : Int) - 128 : Int) ≤ (57343 : Int)
                    · have HR := Lib.hid (Rc1.rr0 (l := s.data.toList) (by rw [G0.out]; omega) (fun h => by rw [G0.out] at h; first | omega | exact m1) (fun h => by rw [G0.out] at h; first | omega | exact .inl m1 | exact .inr (.inl m2) | (rw [G0.out, get_bt s 1 z1, get_bt s 2 z2]; omega)) (fun h => by rw [G0.out] at h; first | omega | exact .inl m1 | exact .inr (.inl m2) | exact .inr (.inr (.inl m3)) | (rw [G0.out, get_bt s 1 z1, get_bt s 2 z2, get_bt s 3 z3]; omega)))
                      obtain ⟨n, hn⟩ : ∃ n : Int, n = ((Rc1.bt s.data.toList 0 : Int) - 224) * 4096 + ((Rc1.bt s.data.toList 1 : Int) - 128) * 64 + (Rc1.bt s.data.toList 2 : Int) - 128 := ⟨_, rfl⟩
                      rw [G0.out, get_bt s 1 z1, get_bt s 2 z2] at hn
                      have g3' : decide (n ≤ 57343) = true := decide_eq_true (by omega)
                      have g3n : (!decide (n ≤ 57343)) = false := by rw [g3']; rfl
                      rw [hn] at g3' g3n
                      clear hn
                      have M1 := Lib.hid (HM1.out _ m1)
                      have M2 := Lib.hid (HM2.out _ m2)
                      clear m1 q1 m2 q2 HM1 HM2 HM3
                      go_enter Tryz.func87, Tryz.ntmps87
                      go_wp2_with (first | (go_at_call 99; ((with_reducible refine (M1.out _).mono ?_)); rintro e w1 ⟨rfl, rfl⟩) | (go_at_call 99; ((with_reducible refine (M2.out _).mono ?_)); rintro e w1 ⟨rfl, rfl⟩))
                      go_region
                      go_wp2
                      go_ret2
                      exact ⟨ret2_of HR.out, hB.drew⟩
                    · have HR := Lib.hid (Rc1.rr3 (l := s.data.toList) (by rw [G0.out]; omega) m1 m2 _ rfl (by rw [G0.out, get_bt s 1 z1, get_bt s 2 z2]; omega))
                      rw [G0.out, get_bt s 1 z1, get_bt s 2 z2] at HR
                      obtain ⟨n, hn⟩ : ∃ n : Int, n = ((Rc1.bt s.data.toList 0 : Int) - 224) * 4096 + ((Rc1.bt s.data.toList 1 : Int) - 128) * 64 + (Rc1.bt s.data.toList 2 : Int) - 128 := ⟨_, rfl⟩
                      rw [G0.out, get_bt s 1 z1, get_bt s 2 z2] at hn
                      have g3' : decide (n ≤ 57343) = false := decide_eq_false (by omega)
                      have g3n : (!decide (n ≤ 57343)) = true := by rw [g3']; rfl
                      rw [hn] at g3' g3n
                      clear hn
                      have M1 := Lib.hid (HM1.out _ m1)
                      have M2 := Lib.hid (HM2.out _ m2)
                      clear m1 q1 m2 q2 HM1 HM2 HM3
                      go_enter Tryz.func87, Tryz.ntmps87
                      go_wp2_with (first | (go_at_call 99; ((with_reducible refine (M1.out _).mono ?_)); rintro e w1 ⟨rfl, rfl⟩) | (go_at_call 99; ((with_reducible refine (M2.out _).mono ?_)); rintro e w1 ⟨rfl, rfl⟩))
                      go_region
                      go_wp2
                      go_ret2
                      exact ⟨ret2_of HR.out, hB.drew⟩
                  · have HR := Lib.hid (Rc1.rr3 (l := s.data.toList) (by rw [G0.out]; omega) m1 m2 _ rfl (by rw [G0.out, get_bt s 1 z1, get_bt s 2 z2]; omega))
                    rw [G0.out, get_bt s 1 z1, get_bt s 2 z2] at HR
                    have M1 := Lib.hid (HM1.out _ m1)
                    have M2 := Lib.hid (HM2.out _ m2)
                    clear m1 q1 m2 q2 HM1 HM2 HM3
                    go_enter Tryz.func87, Tryz.ntmps87
                    go_wp2_with (first | (go_at_call 99; ((with_reducible refine (M1.out _).mono ?_)); rintro e w1 ⟨rfl, rfl⟩) | (go_at_call 99; ((with_reducible refine (M2.out _).mono ?_)); rintro e w1 ⟨rfl, rfl⟩))
                    go_region
                    go_wp2
                    go_ret2
                    exact ⟨ret2_of HR.out, hB.drew⟩
                · have HR := Lib.hid (Rc1.rr0 (l := s.data.toList) (by rw [G0.out]; omega) (fun h => by rw [G0.out] at h; first | omega | exact m1) (fun h => by rw [G0.out] at h; first | omega | exact .inl m1 | exact .inr (.inl m2) | (rw [G0.out, get_bt s 1 z1, get_bt s 2 z2]; omega)) (fun h => by rw [G0.out] at h; first | omega | exact .inl m1 | exact .inr (.inl m2) | exact .inr (.inr (.inl m3)) | (rw [G0.out, get_bt s 1 z1, get_bt s 2 z2, get_bt s 3 z3]; omega)))
                  have M1 := Lib.hid (HM1.out _ m1)
                  have M2 := Lib.hid (HM2.out _ m2)
                  clear m1 q1 m2 q2 HM1 HM2 HM3
                  go_enter Tryz.func87, Tryz.ntmps87
                  go_wp2_with (first | (go_at_call 99; ((with_reducible refine (M1.out _).mono ?_)); rintro e w1 ⟨rfl, rfl⟩) | (go_at_call 99; ((with_reducible refine (M2.out _).mono ?_)); rintro e w1 ⟨rfl, rfl⟩))
                  go_region
                  go_wp2
                  go_ret2
                  exact ⟨ret2_of HR.out, hB.drew⟩
        · by_cases l5 : (s[0]'h0).toNat ≤ 244
          · cases m1 : Rc1.mB s.data.toList 1 with
            | false =>
              have HR := Lib.hid (Rc1.rr0 (l := s.data.toList) (by rw [G0.out]; omega) (fun h => by rw [G0.out] at h; first | omega | exact m1) (fun h => by rw [G0.out] at h; first | omega | exact .inl m1 | exact .inr (.inl m2) | (rw [G0.out, get_bt s 1 z1, get_bt s 2 z2]; omega)) (fun h => by rw [G0.out] at h; first | omega | exact .inl m1 | exact .inr (.inl m2) | exact .inr (.inr (.inl m3)) | (rw [G0.out, get_bt s 1 z1, get_bt s 2 z2, get_bt s 3 z3]; omega)))
              have M1 := Lib.hid (HM1.out _ m1)
              clear m1 HM1 HM2 HM3
              go_enter Tryz.func87, Tryz.ntmps87
              go_wp2_with (first | (go_at_call 99; ((with_reducible refine (M1.out _).mono ?_)); rintro e w1 ⟨rfl, rfl⟩))
              go_ret2
              exact ⟨ret2_of HR.out, hB⟩
            | true =>
              cases m2 : Rc1.mB s.data.toList 2 with
                | false =>
                  have HR := Lib.hid (Rc1.rr0 (l := s.data.toList) (by rw [G0.out]; omega) (fun h => by rw [G0.out] at h; first | omega | exact m1) (fun h => by rw [G0.out] at h; first | omega | exact .inl m1 | exact .inr (.inl m2) | (rw [G0.out, get_bt s 1 z1, get_bt s 2 z2]; omega)) (fun h => by rw [G0.out] at h; first | omega | exact .inl m1 | exact .inr (.inl m2) | exact .inr (.inr (.inl m3)) | (rw [G0.out, get_bt s 1 z1, get_bt s 2 z2, get_bt s 3 z3]; omega)))
                  have M1 := Lib.hid (HM1.out _ m1)
                  have M2 := Lib.hid (HM2.out _ m2)
                  clear m1 m2 HM1 HM2 HM3
                  go_enter Tryz.func87, Tryz.ntmps87
                  go_wp2_with (first | (go_at_call 99; ((with_reducible refine (M1.out _).mono ?_)); rintro e w1 ⟨rfl, rfl⟩) | (go_at_call 99; ((with_reducible refine (M2.out _).mono ?_)); rintro e w1 ⟨rfl, rfl⟩))
                  go_ret2
                  exact ⟨ret2_of HR.out, hB⟩
                | true =>
                  cases m3 : Rc1.mB s.data.toList 3 with
                    | false =>
                      have HR := Lib.hid (Rc1.rr0 (l := s.data.toList) (by rw [G0.out]; omega) (fun h => by rw [G0.out] at h; first | omega | exact m1) (fun h => by rw [G0.out] at h; first | omega | exact .inl m1 | exact .inr (.inl m2) | (rw [G0.out, get_bt s 1 z1, get_bt s 2 z2]; omega)) (fun h => by rw [G0.out] at h; first | omega | exact .inl m1 | exact .inr (.inl m2) | exact .inr (.inr (.inl m3)) | (rw [G0.out, get_bt s 1 z1, get_bt s 2 z2, get_bt s 3 z3]; omega)))
                      have M1 := Lib.hid (HM1.out _ m1)
                      have M2 := Lib.hid (HM2.out _ m2)
                      have M3 := Lib.hid (HM3.out _ m3)
                      clear m1 m2 m3 HM1 HM2 HM3
                      go_enter Tryz.func87, Tryz.ntmps87
                      go_wp2_with (first | (go_at_call 99; ((with_reducible refine (M1.out _).mono ?_)); rintro e w1 ⟨rfl, rfl⟩) | (go_at_call 99; ((with_reducible refine (M2.out _).mono ?_)); rintro e w1 ⟨rfl, rfl⟩) | (go_at_call 99; ((with_reducible refine (M3.out _).mono ?_)); rintro e w1 ⟨rfl, rfl⟩))
                      go_ret2
                      exact ⟨ret2_of HR.out, hB⟩
                    | true =>
                      have q1 := Rc1.mB_true m1
                      rw [len_data] at q1
                      have z1 : 1 < s.size := q1.1
                      have y1 : (1 : Int) < s.size := by omega
                      have b1 : (s[1]'z1).toNat < 256 := UInt8.toNat_lt _
                      have k1 := q1.2
                      rw [get_bt s 1 z1] at k1
                      have q2 := Rc1.mB_true m2
                      rw [len_data] at q2
                      have z2 : 2 < s.size := q2.1
                      have y2 : (2 : Int) < s.size := by omega
                      have b2 : (s[2]'z2).toNat < 256 := UInt8.toNat_lt _
                      have k2 := q2.2
                      rw [get_bt s 2 z2] at k2
                      have q3 := Rc1.mB_true m3
                      rw [len_data] at q3
                      have z3 : 3 < s.size := q3.1
                      have y3 : (3 : Int) < s.size := by omega
                      have b3 : (s[3]'z3).toNat < 256 := UInt8.toNat_lt _
                      have k3 := q3.2
                      rw [get_bt s 3 z3] at k3
                      by_cases g1 : (65536 : Int) ≤ ((((s[0]'h0).toNat : Int) - 240) * 262144 + (((s[1]'z1).toNat : Int) - 128) * 4096 + (((s[2]'z2).toNat : Int) - 128) * 64 + ((s[3]'z3).toNat : Int) - 128 : Int)
                      · by_cases g2 : ((((s[0]'h0).toNat : Int) - 240) * 262144 + (((s[1]'z1).toNat : Int) - 128) * 4096 + (((s[2]'z2).toNat : Int) - 128) * 64 + ((s[3]'z3).toNat : Int) - 128 : Int) ≤ (1114111 : Int)
                        · have HR := Lib.hid (Rc1.rr4 (l := s.data.toList) (by rw [G0.out]; omega) m1 m2 m3 _ rfl (by rw [G0.out, get_bt s 1 z1, get_bt s 2 z2, get_bt s 3 z3]; omega))
                          rw [G0.out, get_bt s 1 z1, get_bt s 2 z2, get_bt s 3 z3] at HR
                          have M1 := Lib.hid (HM1.out _ m1)
                          have M2 := Lib.hid (HM2.out _ m2)
                          have M3 := Lib.hid (HM3.out _ m3)
                          clear m1 q1 m2 q2 m3 q3 HM1 HM2 HM3
                          go_enter Tryz.func87, Tryz.ntmps87
                          go_wp2_with (first | (go_at_call 99; ((with_reducible refine (M1.out _).mono ?_)); rintro e w1 ⟨rfl, rfl⟩) | (go_at_call 99; ((with_reducible refine (M2.out _).mono ?_)); rintro e w1 ⟨rfl, rfl⟩) | (go_at_call 99; ((with_reducible refine (M3.out _).mono ?_)); rintro e w1 ⟨rfl, rfl⟩))
                          go_region
                          go_wp2
                          go_ret2
                          exact ⟨ret2_of HR.out, hB.drew⟩
                        · have HR := Lib.hid (Rc1.rr0 (l := s.data.toList) (by rw [G0.out]; omega) (fun h => by rw [G0.out] at h; first | omega | exact m1) (fun h => by rw [G0.out] at h; first | omega | exact .inl m1 | exact .inr (.inl m2) | (rw [G0.out, get_bt s 1 z1, get_bt s 2 z2]; omega)) (fun h => by rw [G0.out] at h; first | omega | exact .inl m1 | exact .inr (.inl m2) | exact .inr (.inr (.inl m3)) | (rw [G0.out, get_bt s 1 z1, get_bt s 2 z2, get_bt s 3 z3]; omega)))
                          have M1 := Lib.hid (HM1.out _ m1)
                          have M2 := Lib.hid (HM2.out _ m2)
                          have M3 := Lib.hid (HM3.out _ m3)
                          clear m1 q1 m2 q2 m3 q3 HM1 HM2 HM3
                          go_enter Tryz.func87, Tryz.ntmps87
                          go_wp2_with (first | (go_at_call 99; ((with_reducible refine (M1.out _).mono ?_)); rintro e w1 ⟨rfl, rfl⟩) | (go_at_call 99; ((with_reducible refine (M2.out _).mono ?_)); rintro e w1 ⟨rfl, rfl⟩) | (go_at_call 99; ((with_reducible refine (M3.out _).mono ?_)); rintro e w1 ⟨rfl, rfl⟩))
                          go_region
                          go_wp2
                          go_ret2
                          exact ⟨ret2_of HR.out, hB.drew⟩
                      · have HR := Lib.hid (Rc1.rr0 (l := s.data.toList) (by rw [G0.out]; omega) (fun h => by rw [G0.out] at h; first | omega | exact m1) (fun h => by rw [G0.out] at h; first | omega | exact .inl m1 | exact .inr (.inl m2) | (rw [G0.out, get_bt s 1 z1, get_bt s 2 z2]; omega)) (fun h => by rw [G0.out] at h; first | omega | exact .inl m1 | exact .inr (.inl m2) | exact .inr (.inr (.inl m3)) | (rw [G0.out, get_bt s 1 z1, get_bt s 2 z2, get_bt s 3 z3]; omega)))
                        have M1 := Lib.hid (HM1.out _ m1)
                        have M2 := Lib.hid (HM2.out _ m2)
                        have M3 := Lib.hid (HM3.out _ m3)
                        clear m1 q1 m2 q2 m3 q3 HM1 HM2 HM3
                        go_enter Tryz.func87, Tryz.ntmps87
                        go_wp2_with (first | (go_at_call 99; ((with_reducible refine (M1.out _).mono ?_)); rintro e w1 ⟨rfl, rfl⟩) | (go_at_call 99; ((with_reducible refine (M2.out _).mono ?_)); rintro e w1 ⟨rfl, rfl⟩) | (go_at_call 99; ((with_reducible refine (M3.out _).mono ?_)); rintro e w1 ⟨rfl, rfl⟩))
                        go_region
                        go_wp2
                        go_ret2
                        exact ⟨ret2_of HR.out, hB.drew⟩
          · have HR := Lib.hid (Rc1.rr0 (l := s.data.toList) (by rw [G0.out]; omega) (fun h => by rw [G0.out] at h; first | omega | exact m1) (fun h => by rw [G0.out] at h; first | omega | exact .inl m1 | exact .inr (.inl m2) | (rw [G0.out, get_bt s 1 z1, get_bt s 2 z2]; omega)) (fun h => by rw [G0.out] at h; first | omega | exact .inl m1 | exact .inr (.inl m2) | exact .inr (.inr (.inl m3)) | (rw [G0.out, get_bt s 1 z1, get_bt s 2 z2, get_bt s 3 z3]; omega)))
            go_enter Tryz.func87, Tryz.ntmps87
            go_wp2
            go_ret2
            exact ⟨ret2_of HR.out, hB⟩

end Go.Proofs.YteellffkjjllgaaGreat
