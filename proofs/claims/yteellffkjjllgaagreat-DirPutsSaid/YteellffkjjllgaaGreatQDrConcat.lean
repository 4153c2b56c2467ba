/-
  Rows joined to one, by the library. Conditions: as each theorem states them.
-/
import Derived.Test.YteellffkjjllgaaGreatQDrTake
import Derived.Lib.AppendZerosOnto
namespace Go.Proofs.YteellffkjjllgaaGreat
open Go.RowKit Go.Rc5 Go.Rc6 Go.Rc7

theorem zero_cells (cs : Array Value) (k : Nat) : (Builtin.zeroCells cs k).size = k * cs.size := by
  simp [Builtin.zeroCells]

set_option maxRecDepth 100000 in
set_option maxHeartbeats 4000000 in
theorem GrowS_any (n : Nat) (hn : n ≤ 1000000) (w : World) : Calls Tryz.prog 47 #[.slice none 0 0, .int .i64 n] w fun e w' => (∃ v, e = .returned v ∧ Fresh (rowT 0 38 2 v 0 []) w w') := by
  have h1 : ¬ ((n : Int) < 0) := by omega
  by_cases h0 : n = 0
  · subst h0
    have HF := Lib.hid ((Crew.start w).nil 38 2).fresh
    go_enter Tryz.func47, Tryz.ntmps47
    go_wp2
    go_ret
    exact ⟨_, rfl, HF.out⟩
  · have h4 : (n : Int) > 0 := by omega
    obtain ⟨i0, hi0, hz0, hz1, hz2⟩ := info_parts infoP
    have hrz : ∀ ty, (Builtin.append_ #[23, 3] ty #[.slice none 0 0, .int .i64 n]).run Tryz.prog w = _ := fun ty => Lib.run_append_nil_zeros w 23 3 ty 38 i0 (.agg #[.int .i64 0, .int .i64 0]) .i64 .i64 Tryz.underlying23 Tryz.underlying3 hi0 hz0 n (by omega) (by rw [hz1]; decide) (by omega) (by rw [hz2]; omega)
    have hge : n ≤ grownCap w n 0 38 := grownCap_ge w _ _ _
    have hle := grownCap_le_maxLen w n 0 38 (by unfold maxLen; omega)
    have hsz : (Builtin.zeroCells (Value.cells (.agg #[.int .i64 0, .int .i64 0])) n ++ Builtin.zeroCells (Value.cells (.agg #[.int .i64 0, .int .i64 0])) (grownCap w n 0 38 - n)).size = grownCap w n 0 38 * 2 := by
      rw [Array.size_append, zero_cells, zero_cells, show (Value.cells (.agg #[.int .i64 0, .int .i64 0])).size = 2 from rfl]
      omega
    generalize grownCap w n 0 38 = G at *
    have hG63 : G ≤ 9223372036854775807 := by unfold maxLen at hle; omega
    generalize Builtin.zeroCells (Value.cells (.agg #[.int .i64 0, .int .i64 0])) n ++ Builtin.zeroCells (Value.cells (.agg #[.int .i64 0, .int .i64 0])) (G - n) = cs at *
    have hfr : Fresh (rowT 0 38 2 (.slice (some ⟨w.heap.size, 0, none⟩) 0 G) 0 []) w (w.drew.alloc (.cells cs 38)) := by
      refine ⟨_, ⟨World.ownsRow_made w.drew cs G (Nat.zero_le _) hle hsz, rfl⟩, ((Below.refl _ w).drew).alloc (Nat.le_refl _) _, fun k hk => ?_⟩
      simp [Value.ownBlock] at hk
      exact Nat.le_of_eq hk
    have HF := Lib.hid hfr
    clear hfr hsz hle hi0 hz0 hz1 hz2
    go_enter Tryz.func47, Tryz.ntmps47
    go_wp2_with (at_builtin; refine Lib.wpList_append_run _ rfl _ _ _ _ rfl _ _ rfl rfl _ _ (hrz _) ?_)
    all_goals (go_ret; exact ⟨_, rfl, HF.out⟩)

theorem sum_take {α : Type} (R : List (List α)) (k : Nat) : ((R.take k).map List.length).sum ≤ (R.map List.length).sum := by
  induction R generalizing k with
  | nil => simp
  | cons x r ih =>
    cases k with
    | zero => simp
    | succ k =>
      have := ih k
      simp only [List.take_succ_cons, List.map_cons, List.sum_cons]
      omega

theorem sum_snoc {α : Type} (R : List (List α)) (k : Nat) (h : k < R.length) : ((R.take (k + 1)).map List.length).sum = ((R.take k).map List.length).sum + (R.getD k []).length := by
  rw [take_snoc R k [] h]
  simp

theorem flat_len {α : Type} (R : List (List α)) : R.flatten.length = (R.map List.length).sum := by simp [List.length_flatten]

set_option maxRecDepth 100000 in
set_option maxHeartbeats 4000000 in
theorem ConcatS_any (R : List (List SpI)) (a : Option Addr) (n c : Nat) (w : World) (h : RowsAt w a R) (hl : R.length = n) (hn : n ≤ 1000) (hsum : (R.map List.length).sum ≤ 1000000) :
    Calls Tryz.prog 26 #[.slice a n c] w fun e w' => (∃ v, e = .returned v ∧ Fresh (spT v R.flatten) w w') := by
  have HF := Lib.hid (fun W (hW : Below w.heap.size w W) => RowsAt.below h hW)
  have HL := Lib.hid hl
  have HS := Lib.hid hsum
  clear h hl hsum
  go_enter Tryz.func26, Tryz.ntmps26
  go_wp2
  go_loopw [3, 5, 11] (fun sz _ i wr => ∃ k q : Nat, i = .int .i64 k ∧ k ≤ n ∧ sz = .int .i64 q ∧ q ≤ 1000000 ∧ Hid (q = ((R.take k).map List.length).sum) ∧ wr = w) (fun _ _ i _ => (n - intOf i).toNat)
  case atStart => exact ⟨0, 0, rfl, Nat.zero_le _, rfl, by omega, rfl, rfl⟩
  case round =>
    obtain ⟨k, q, rfl, hk, rfl, hq, HQ, rfl⟩ := hrel
    by_cases hlt : k < n
    · have hltI : (k : Int) < n := by omega
      obtain ⟨x, p, cp, rfl, c0, _⟩ := HF.out wr (Below.refl _ _) k (by rw [HL.out]; exact hlt)
      have h1 := sum_snoc R k (by rw [HL.out]; exact hlt)
      have h2 := sum_take R (k + 1)
      have hb : q + (R.getD k []).length ≤ 1000000 := by have := HS.out; have := HQ.out; omega
      have HQ2 : Hid (q + (R.getD k []).length = ((R.take (k + 1)).map List.length).sum) := by unfold Hid; rw [h1, HQ.out]
      generalize (R.getD k []).length = len at *
      clear h1 h2
      have hn0 : ¬ ((q : Int) + len < 0) := by omega
      go_wp2
      exact ⟨⟨k + 1, q + len, by go_num, by omega, by go_num, hb, HQ2, trivial⟩, by simp [intOf]; omega⟩
    · obtain rfl : k = n := by omega
      have hltI : ¬ (k : Int) < k := by omega
      have HG := Lib.hid (GrowS_any q hq)
      go_wp2_with fail
      refine (HG.out _).mono ?_
      rintro e w1 ⟨v, rfl, hf⟩
      have HC := Lib.hid ((Crew.start wr).more hf)
      clear hf HQ hq HG
      go_wp2_with fail
      go_loopw [6, 8, 27] (fun v _ i W => ∃ j : Nat, i = .int .i64 j ∧ j ≤ k ∧ Crew (fun _ => False) wr [spT v (R.take j).flatten] W) (fun _ _ i _ => (k - intOf i).toNat)
      case atStart => exact ⟨0, rfl, Nat.zero_le _, HC.out⟩
      case round =>
        obtain ⟨j, rfl, hj, HR⟩ := hrel
        clear HC
        by_cases hlj : j < k
        · have hljI : (j : Int) < k := by omega
          have hjl : j < R.length := by rw [HL.out]; exact hlj
          obtain ⟨x, p, cp, rfl, c0, hs⟩ := HF.out _ HR.bel j hjl
          have HS2 := Lib.hid hs
          have h1 := flat_len (R.take j)
          have h2 := sum_take R (j + 1)
          have h3 := sum_snoc R j hjl
          have HT : Hid ((R.take j).flatten ++ R.getD j [] = (R.take (j + 1)).flatten) := by
            unfold Hid
            rw [take_snoc R j [] hjl]
            simp
          have HBB : Hid ((R.take j).flatten.length + (R.getD j []).length ≤ 8796093022208) := by unfold Hid; have := HS.out; omega
          generalize R.getD j [] = S at *
          generalize (R.take j).flatten = M at *
          have HE := Lib.hid HR
          clear h1 h2 h3 hs HR hjl
          go_wp2_with (at_builtin; refine wpList_append_spans (M := M) (L := S) HE.out 0 rfl rfl (.tmp 31) (.tmp 32) rfl rfl p S.length cp rfl HS2.out rfl HBB.out ?nx)
          case nx =>
            intro v' w2 hc
            rw [HT.out] at hc
            have HC2 := Lib.hid hc
            clear hc HE
            go_wp2
            exact ⟨⟨j + 1, by go_num, by omega, HC2.out⟩, by simp [intOf]; omega⟩
        · obtain rfl : j = k := by omega
          have hljI : ¬ (j : Int) < j := by omega
          have HF2 := Lib.hid HR.fresh
          clear HR
          go_wp2
          go_ret
          refine ⟨_, rfl, ?_⟩
          have h := HF2.out
          rw [List.take_of_length_le (Nat.le_of_eq HL.out)] at h
          exact h

/-- A row of files that is read, with the places of their spans. -/
theorem files_row {w : World} {x : Addr} {L : List Fl} (h : FilesAt w (some x) L) : ∃ R : List FR, R.map (·.1) = L ∧ (∀ r ∈ R, SpansAt w r.2.1 r.1.spans) ∧ ∀ j u, (filesC R)[j]? = some u → w.cell? (x.add j) = some u := by
  have key : ∀ i, ∃ pc : Option Addr × Nat, i < L.length → (w.cell? (x.add (i * 3)) = some (.string (L.getD i default).name) ∧ w.cell? ⟨(x.add (i * 3)).block, (x.add (i * 3)).off + 1, none⟩ = some (.int .i64 (L.getD i default).size) ∧ w.cell? ⟨(x.add (i * 3)).block, (x.add (i * 3)).off + 2, none⟩ = some (.slice pc.1 (L.getD i default).spans.length pc.2)) ∧ SpansAt w pc.1 (L.getD i default).spans := by
    intro i
    by_cases hlt : i < L.length
    · obtain ⟨y, hy, h0, h1, p, c, h2, h3⟩ := h i hlt
      cases hy
      exact ⟨(p, c), fun _ => ⟨⟨h0, h1, h2⟩, h3⟩⟩
    · exact ⟨(none, 0), fun h => absurd h hlt⟩
  have hlen : ((List.range L.length).map fun i => ((L.getD i default, (key i).choose) : FR)).length = L.length := by simp
  have hget : ∀ i, i < L.length → ((List.range L.length).map fun i => ((L.getD i default, (key i).choose) : FR)).getD i default = (L.getD i default, (key i).choose) := fun i hi => by
    simp [List.getD_eq_getElem?_getD, hi]
  refine ⟨(List.range L.length).map fun i => (L.getD i default, (key i).choose), ?_, fun r hr => ?_, fun j u hu => ?_⟩
  · apply List.ext_getElem
    · simp
    · intro i h1 h2
      simp [List.getD_eq_getElem?_getD, h2]
  · obtain ⟨i, hi, rfl⟩ := List.mem_map.1 hr
    exact ((key i).choose_spec (List.mem_range.1 hi)).2
  · have hj := (List.getElem?_eq_some_iff.1 hu).1
    rw [filesC_length, hlen] at hj
    obtain ⟨i, hi⟩ : ∃ i, j = i * 3 ∨ j = i * 3 + 1 ∨ j = i * 3 + 2 := ⟨j / 3, by omega⟩
    have hil : i < L.length := by omega
    obtain ⟨f0, f1, f2⟩ := filesC_at _ i (by rw [hlen]; exact hil)
    rw [hget i hil] at f0 f1 f2
    obtain ⟨⟨c0, c1, c2⟩, _⟩ := (key i).choose_spec hil
    rcases hi with rfl | rfl | rfl
    · rw [hu] at f0
      rw [c0, f0]
    · rw [hu] at f1
      rw [show i * 3 + 1 = i * 3 + (0 + 1) from rfl, add_spelt, c1, f1]
    · rw [hu] at f2
      rw [show i * 3 + 2 = i * 3 + (1 + 1) from rfl, add_spelt, c2, f2]
      rfl

/-- 'append' of files that lie anywhere to a row of the call's own. -/
theorem wpList_append_files {U : Nat → Prop} {w0 w : World} {l : List (Thing 0)} {ops : Array Oper} {rest : List Oper} {o : Oper} {a : Act} {Q : Exit → Act → World → Prop} {M R : List FR} (h : Crew U w0 l w) (i : Nat) {v : Value} (hi : l[i]? = some (rowT 0 40 3 v M.length (filesC M))) (hgd : o.guard = none) (s x : Operand)
    (ho : o.op = .call { callee := .builtin .append, args := #[s, x], argTypes := #[22, 22] }) (hs : a.eval s = v) (ao : Option Addr) (m c : Nat) (hx : a.eval x = .slice ao m c) (hnews : ∀ y, ao = some y → ∀ j u, (filesC R)[j]? = some u → w.cell? (y.add j) = some u) (hnone : ao = none → R = []) (hl : R.length = m) (hb : M.length + m ≤ 1000000)
    (hK : ∀ v' w', Crew U w0 (l.set i (rowT 0 40 3 v' (M ++ R).length (filesC (M ++ R)))) w' → wpList Tryz.prog ops Q rest (a.put o.dst v') w') : wpList Tryz.prog ops Q (o :: rest) a w := by
  subst hl
  cases ao with
  | none =>
    obtain rfl := hnone rfl
    obtain ⟨i0, hi0, _⟩ := info_parts infoF
    have hr := run_append_noneC (P := Tryz.prog) (w := w) 0 22 o.type 40 i0 3 c Tryz.underlying22 hi0 v M.length (filesC M) (h.own i hi)
    refine wpList_plain hgd fun K hK' => ?_
    unfold Oper.wp execOp
    simp only [ho, resolve, invoke, builtin, Sem.run_bind, Sem.run_pure, Result.andThen_ok, List.map_toArray, List.map_cons, List.map_nil, hs, hx, List.length_nil, hr]
    refine hK' _ _ (hK v w ?_)
    rw [List.append_nil]
    have e : l.set i (rowT 0 40 3 v M.length (filesC M)) = l := by
      apply List.ext_getElem?
      intro j
      rw [List.getElem?_set]
      by_cases e : i = j
      · subst e
        rw [if_pos rfl, if_pos (List.getElem?_eq_some_iff.1 hi).1, hi]
      · rw [if_neg e]
    rw [e]
    exact h
  | some ad =>
    refine wpList_append_crew h i hi hgd s x 22 ho (.agg #[.string ⟨#[]⟩, .int .i64 0, .slice none 0 0]) 48 Tryz.underlying22 infoF rfl (by decide) hs ad R.length c (filesC R) hx (by rw [filesC_length]) (hnews ad rfl) (filesC_one R) (by unfold maxLen; omega) (by omega) ?_
    intro v' w' hc
    refine hK v' w' ?_
    rw [filesC_append, List.length_append]
    exact hc

/-- A row of rows of files, read. -/
def RowsF (w : World) (a : Option Addr) (R : List (List Fl)) : Prop :=
  ∀ i, i < R.length → ∃ x p c, a = some x ∧ w.cell? (x.add i) = some (.slice p (R.getD i []).length c) ∧ FilesAt w p (R.getD i [])

theorem RowsF.below {w w' : World} {a : Option Addr} {R : List (List Fl)} (h : RowsF w a R) (hb : Below w.heap.size w w') : RowsF w' a R := by
  intro i hi
  obtain ⟨x, p, c, hx, c0, hs⟩ := h i hi
  exact ⟨x, p, c, hx, keeps hb _ _ c0, FilesAt.below hs hb⟩

/-- A row of files is the answer, read. -/
def FilesRead (L : List Fl) (w : World) (e : Ending) (w' : World) : Prop := ∃ a c, e = .returned (.slice a L.length c) ∧ FilesAt w' a L ∧ Below w.heap.size w w'

end Go.Proofs.YteellffkjjllgaaGreat
