/-
  The reference of layer 5: what inside and marks answer. Conditions: as each theorem states them.
  The reference of layer 5: what marks answers of a row. Conditions: as each theorem states them.
  The reference of layer 5: what Norm, Rest, Total and Has answer. Conditions: as each theorem states them.
  The iterators of the program over a row of spans: slices.Values and full: what they give, one behind the other. Conditions: as each theorem states them.
  The iterators full and gaps of the program, and slices.Collect, over a row of spans: what they give, and the row that is made of it. Conditions: as each theorem states them.
-/
import Derived.Test.YteellffkjjllgaaGreatG3
import Derived.Laws.MakeOwn
import Derived.WalkSmall
import Derived.Shelf.Abstract
import Derived.Shelf.RegionOpen
import Derived.OwnWalkIn
import Derived.TacticsInMore
import Derived.LoopNIn
import Derived.LoopIn
import Derived.Laws.OwnMore
import Derived.Maps.AppendAt
namespace Go.Rc5

/-- Has a span sectors, all below size? -/
def insB (s : SpI) (size : Int) : Bool := decide (1 ≤ s.2) && (decide (0 ≤ s.1) && (decide (s.1 < size) && decide (s.2 ≤ size - s.1)))

theorem insB_iff (s : SpI) (size : Int) : insB s size = true ↔ 1 ≤ s.2 ∧ 0 ≤ s.1 ∧ s.1 < size ∧ s.2 ≤ size - s.1 := by simp [insB]

/-- What is wrong with a row, whatever its sectors: the size, or a span. -/
def Bad (L : List SpI) (size : Int) : Prop := size < 1 ∨ 8192 < size ∨ ∃ s ∈ L, insB s size = false

structure Fits (L : List SpI) (N : List Sp) (n : Nat) : Prop where
  lo : 1 ≤ n
  hi : n ≤ 8192
  eq : L = castS N
  some : ∀ s ∈ N, 1 ≤ s.2
  fit : ∀ s ∈ N, s.1 + s.2 ≤ n

theorem bad_or_fits (L : List SpI) (size : Int) : Bad L size ∨ ∃ N n, size = ((n : Nat) : Int) ∧ Fits L N n := by
  by_cases h1 : size < 1
  · exact .inl (.inl h1)
  by_cases h2 : 8192 < size
  · exact .inl (.inr (.inl h2))
  by_cases h3 : ∃ s ∈ L, insB s size = false
  · exact .inl (.inr (.inr h3))
  have h3' : ∀ s ∈ L, insB s size = true := fun s hs => by
    cases e : insB s size with
    | true => rfl
    | false => exact absurd ⟨s, hs, e⟩ h3
  refine .inr ⟨L.map fun s => (s.1.toNat, s.2.toNat), size.toNat, by omega, by omega, by omega, ?_, ?_, ?_⟩
  · simp only [castS, List.map_map]
    symm
    have e : ∀ s ∈ L, ((fun s : Sp => ((s.1 : Int), (s.2 : Int))) ∘ fun s : SpI => (s.1.toNat, s.2.toNat)) s = id s := by
      intro s hs
      have := (insB_iff s size).1 (h3' s hs)
      exact Prod.ext (by show ((s.1.toNat : Nat) : Int) = s.1; omega) (by show ((s.2.toNat : Nat) : Int) = s.2; omega)
    exact (List.map_congr_left e).trans (List.map_id L)
  · intro s hs
    simp only [List.mem_map] at hs
    obtain ⟨t, ht, rfl⟩ := hs
    have := (insB_iff t size).1 (h3' t ht)
    show 1 ≤ t.2.toNat
    omega
  · intro s hs
    simp only [List.mem_map] at hs
    obtain ⟨t, ht, rfl⟩ := hs
    have := (insB_iff t size).1 (h3' t ht)
    show t.1.toNat + t.2.toNat ≤ size.toNat
    omega

/-- The marks of f below n. -/
def bl (f : Nat → Bool) (n : Nat) : List Bool := (List.range n).map f

theorem bl_length (f : Nat → Bool) (n : Nat) : (bl f n).length = n := by simp [bl]
theorem bl_get (f : Nat → Bool) (n x : Nat) (h : x < n) : (bl f n).getD x false = f x := by simp [bl, List.getD_eq_getElem?_getD, h]
theorem bl_set (f : Nat → Bool) (n x : Nat) (b : Bool) : (bl f n).set x b = bl (fun y => if y = x then b else f y) n := by
  apply List.ext_getElem?
  intro j
  simp only [bl, List.getElem?_set, List.length_map, List.length_range, List.getElem?_map]
  by_cases hj : j < n
  · by_cases e : x = j
    · subst e; simp [hj]
    · have e' : ¬ j = x := fun h => e h.symm
      simp [hj, e, e']
  · by_cases e : x = j
    · subst e; simp [hj]
    · simp [hj, e]
theorem bl_congr {f g : Nat → Bool} {n : Nat} (h : ∀ x, x < n → f x = g x) : bl f n = bl g n := by
  unfold bl
  exact List.map_congr_left (fun x hx => h x (by simpa using hx))

theorem castS_getD (N : List Sp) (i : Nat) : (castS N).getD i (0, 0) = (((N.getD i (0, 0)).1 : Int), ((N.getD i (0, 0)).2 : Int)) := by
  simp only [castS, List.getD_eq_getElem?_getD, List.getElem?_map]
  cases N[i]? <;> rfl

theorem take_snoc {α : Type} (l : List α) (k : Nat) (z : α) (h : k < l.length) : l.take (k + 1) = l.take k ++ [l.getD k z] := by
  rw [List.take_add_one, List.getElem?_eq_getElem h]
  simp [List.getD_eq_getElem?_getD, h]

theorem apart_symm {s t : Sp} (h : Apart s t) : Apart t s := by
  intro x hx
  rw [Bool.eq_false_iff]
  intro e
  rw [h x e] at hx
  cases hx

end Go.Rc5
namespace Go.Proofs.YteellffkjjllgaaGreat
open Go.RowKit Go.Rc5

set_option maxHeartbeats 2000000 in
theorem rinside_any (s : SpI) (size : Int) (h0 : 1 ≤ size) (h1 : size ≤ 8192) (w : World) :
    Calls Tryz.prog 73 #[.agg #[.int .i64 s.1, .int .i64 s.2], .int .i64 size] w fun e w' => e = .returned (.bool (insB s size)) ∧ Below w.heap.size w w' := by
  obtain ⟨a, m⟩ := s
  dsimp only
  have HE : Hid (insB (a, m) size = (decide (1 ≤ m) && (decide (0 ≤ a) && (decide (a < size) && decide (m ≤ size - a))))) := rfl
  by_cases b1 : 1 ≤ m
  · by_cases b2 : 0 ≤ a
    · by_cases b3 : a < size
      · by_cases b4 : m ≤ size - a
        · go_enter Tryz.func73, Tryz.ntmps73
          go_wp2
          go_ret
          exact ⟨by rw [HE.out]; simp [b1, b2, b3, b4], (Below.refl _ _).alloc (Nat.le_refl _) _⟩
        · go_enter Tryz.func73, Tryz.ntmps73
          go_wp2
          go_ret
          exact ⟨by rw [HE.out]; simp; omega, (Below.refl _ _).alloc (Nat.le_refl _) _⟩
      · go_enter Tryz.func73, Tryz.ntmps73
        go_wp2
        go_ret
        exact ⟨by rw [HE.out]; simp; omega, (Below.refl _ _).alloc (Nat.le_refl _) _⟩
    · go_enter Tryz.func73, Tryz.ntmps73
      go_wp2
      go_ret
      exact ⟨by rw [HE.out]; simp; omega, (Below.refl _ _).alloc (Nat.le_refl _) _⟩
  · go_enter Tryz.func73, Tryz.ntmps73
    go_wp2
    go_ret
    exact ⟨by rw [HE.out]; simp; omega, (Below.refl _ _).alloc (Nat.le_refl _) _⟩

end Go.Proofs.YteellffkjjllgaaGreat

namespace Go.Proofs.YteellffkjjllgaaGreat
open Go.RowKit Go.Rc5

theorem make_own {t e : TypeId} {z : Value} {bytes : Nat} (ht : Tryz.prog.underlying t = some (.slice e)) (hi : (Tryz.prog.info? e).map (fun i => (i.zero, i.size, i.bytes)) = some (some z, 1, bytes)) (hz : z.cells = #[z])
    (n : Nat) (hb : (bytes : Int) * (n : Int) ≤ 281474976710656) (hn : (n : Int) ≤ 9223372036854775807) (w : World) :
    (Instr.makeSlice t (.int .i64 (n : Int)) (.int .i64 (n : Int))).run Tryz.prog w = .ok (.slice (some ⟨w.heap.size, 0, none⟩) n n) (w.alloc (.cells (List.replicate n z).toArray e)) := by
  obtain ⟨i, h1, h2, h3, h4⟩ := info_parts hi
  subst h4
  have := run_make (P := Tryz.prog) w t e i z ht h1 h2 .i64 .i64 (n : Int) (n : Int) (by omega) (by omega) hb hn
  rw [this, h3, hz]
  have e2 : madeCells #[z] n = (List.replicate n z).toArray := by
    apply Array.ext'
    rw [toList_madeCells_one]
  simp [e2]

/-- A row of marks of the call's own. -/
abbrev blT (v : Value) (B : List Bool) (n : Nat) : Thing 0 := rowT 0 4 1 v n (bools B)

set_option maxHeartbeats 2000000 in
theorem rmarks_bad (L : List SpI) (a : Option Addr) (c len : Nat) (size : Int) (w : World) (h : SpansAt w a L) (hl : L.length = len) (hlen : len ≤ 100000) (hb : Bad L size) :
    Calls Tryz.prog 48 #[.slice a len c, .int .i64 size] w fun e w' => e = .returned (.tuple #[.slice none 0 0, .int .i64 11]) ∧ Below w.heap.size w w' := by
  by_cases b1 : size < 1
  · clear h hb
    go_enter Tryz.func48, Tryz.ntmps48
    go_wp2
    go_ret2
    exact ⟨rfl, Below.refl _ _⟩
  by_cases b2 : 8192 < size
  · clear h hb
    go_enter Tryz.func48, Tryz.ntmps48
    go_wp2
    go_ret2
    exact ⟨rfl, Below.refl _ _⟩
  have hex : ∃ s ∈ L, insB s size = false := by
    rcases hb with h | h | h
    · exact absurd h b1
    · exact absurd h b2
    · exact h
  have HX := Lib.hid hex
  have HS := Lib.hid (fun W (hb : Below w.heap.size w W) => SpansAt.below h hb)
  have HL := Lib.hid hl
  have HI := Lib.hid (fun s W => rinside_any s size (by omega) (by omega) W)
  clear h hb hex hl
  go_enter Tryz.func48, Tryz.ntmps48
  go_wp2
  go_loopw [6] (fun i wr => ∃ k : Nat, i = .int .i64 k ∧ k ≤ len ∧ (∀ j, j < k → insB (L.getD j (0, 0)) size = true) ∧ Below w.heap.size w wr) (fun i _ => (len - intOf i).toNat)
  case atStart => exact ⟨0, rfl, Nat.zero_le _, fun j hj => absurd hj (Nat.not_lt_zero _), Below.refl _ _⟩
  case round =>
    obtain ⟨k, rfl, hk, hall, hB⟩ := hrel
    have HA := Lib.hid hall
    clear hall
    by_cases hlt : k < len
    · have hltI : (k : Int) < len := by omega
      obtain ⟨x, rfl, c0, c1⟩ := HS.out wr hB k (by rw [HL.out]; exact hlt)
      have HC := Lib.hid (HI.out (L.getD k (0, 0)) wr)
      cases hins : insB (L.getD k (0, 0)) size with
      | true =>
        rw [hins] at HC
        have HINS := Lib.hid hins
        clear hins
        generalize L.getD k (0, 0) = s at c0 c1 HC
        obtain ⟨s1, s2⟩ := s
        dsimp only at c0 c1
        go_wp2_with fail
        refine HC.out.mono ?_
        rintro e w1 ⟨rfl, hb1⟩
        have HB := Lib.hid (hB.trans (hb1.mono hB.size))
        clear hb1 HC
        go_wp2
        refine ⟨⟨k + 1, by go_num, by omega, fun j hj => ?_, HB.out⟩, by simp [intOf]; omega⟩
        by_cases e : j = k
        · subst e
          exact HINS.out
        · exact HA.out j (by omega)
      | false =>
        rw [hins] at HC
        clear hins
        generalize L.getD k (0, 0) = s at c0 c1 HC
        obtain ⟨s1, s2⟩ := s
        dsimp only at c0 c1
        go_wp2_with fail
        refine HC.out.mono ?_
        rintro e w1 ⟨rfl, hb1⟩
        have HB := Lib.hid (hB.trans (hb1.mono hB.size))
        clear hb1 HC
        go_wp2
        go_ret2
        exact ⟨rfl, HB.out⟩
    · exfalso
      obtain ⟨s, hs, hf⟩ := HX.out
      obtain ⟨j, hj, e⟩ := List.getElem_of_mem hs
      have hj' : j < k := by have := HL.out; omega
      have := HA.out j hj'
      rw [List.getD_eq_getElem?_getD, List.getElem?_eq_getElem hj, e] at this
      rw [show (some s).getD ((0 : Int), (0 : Int)) = s from rfl, hf] at this
      cases this

/-- What marks answers of a row of which each span is inside. -/
def MarksAt (N : List Sp) (n : Nat) (w : World) (e : Ending) (w' : World) : Prop :=
  (e = .returned (.tuple #[.slice none 0 0, .int .i64 5]) ∧ ¬ N.Pairwise Apart ∧ Below w.heap.size w w') ∨
  ∃ v, e = .returned (.tuple #[v, .int .i64 0]) ∧ N.Pairwise Apart ∧ Fresh (blT v (bl (memB N) n) n) w w'

set_option maxHeartbeats 8000000 in
theorem rmarks_good (L : List SpI) (N : List Sp) (n : Nat) (a : Option Addr) (c len : Nat) (w : World) (h : SpansAt w a L) (hl : L.length = len) (hlen : len ≤ 100000) (hg : Fits L N n) :
    Calls Tryz.prog 48 #[.slice a len c, .int .i64 n] w (MarksAt N n w) := by
  have hlo := hg.lo
  have hhi := hg.hi
  have hnl : N.length = len := by rw [← hl, hg.eq, castS_length]
  have HI := Lib.hid (fun s W => rinside_any s (n : Int) (by omega) (by omega) W)
  have HS := Lib.hid (fun W (hb : Below w.heap.size w W) => SpansAt.below h hb)
  have HIN : Hid (∀ k, k < len → insB ((castS N).getD k (0, 0)) n = true) := fun k hk => by
    rw [castS_getD, insB_iff]
    have hm : N.getD k (0, 0) ∈ N := by
      rw [List.getD_eq_getElem?_getD, List.getElem?_eq_getElem (by omega)]
      exact List.getElem_mem _
    have h1 := hg.some _ hm
    have h2 := hg.fit _ hm
    dsimp only
    omega
  have HFIT : Hid (∀ k, k < len → 1 ≤ (N.getD k (0, 0)).2 ∧ (N.getD k (0, 0)).1 + (N.getD k (0, 0)).2 ≤ n) := fun k hk => by
    have hm : N.getD k (0, 0) ∈ N := by
      rw [List.getD_eq_getElem?_getD, List.getElem?_eq_getElem (by omega)]
      exact List.getElem_mem _
    exact ⟨hg.some _ hm, hg.fit _ hm⟩
  rw [hg.eq] at HS
  have HNL := Lib.hid hnl
  have hLen : (castS N).length = len := by rw [castS_length]; exact hnl
  have HLL := Lib.hid hLen
  clear h hl hg hnl hLen
  have hI1 : ¬ (n : Int) < 1 := by omega
  have hI2 : ¬ (8192 : Int) < n := by omega
  have hmk := fun W => make_own (t := 67) (e := 4) (z := .bool false) (bytes := 1) Tryz.underlying67 (by kernel_rfl) rfl n (by omega) (by omega) W
  have hrep : (List.replicate n (Value.bool false)) = bools (bl (memB []) n) := by
    unfold bools bl
    apply List.ext_getElem?
    intro j
    simp only [List.getElem?_replicate, List.getElem?_map]
    by_cases hj : j < n
    · simp [hj, memB_nil]
    · simp [hj]
  rw [hrep] at hmk
  obtain ⟨C, hC⟩ : ∃ C, C = (bools (bl (memB []) n)).toArray := ⟨_, rfl⟩
  rw [← hC] at hmk
  have HC0 := Lib.hid hC
  clear hC hrep
  go_enter Tryz.func48, Tryz.ntmps48
  go_wp2
  go_loopw [6] (fun i wr => ∃ k : Nat, i = .int .i64 k ∧ k ≤ len ∧ Below w.heap.size w wr) (fun i _ => (len - intOf i).toNat)
  case atStart => exact ⟨0, rfl, Nat.zero_le _, Below.refl _ _⟩
  case round =>
    obtain ⟨k, rfl, hk, hB⟩ := hrel
    by_cases hlt : k < len
    · have hltI : (k : Int) < len := by omega
      obtain ⟨x, rfl, c0, c1⟩ := HS.out wr hB k (by rw [HLL.out]; exact hlt)
      have HC := Lib.hid (HI.out ((castS N).getD k (0, 0)) wr)
      rw [HIN.out k hlt] at HC
      generalize (castS N).getD k (0, 0) = s at *
      obtain ⟨s1, s2⟩ := s
      dsimp only at c0 c1
      go_wp2_with fail
      refine HC.out.mono ?_
      rintro e w1 ⟨rfl, hb1⟩
      have HB := Lib.hid (hB.trans (hb1.mono hB.size))
      clear hb1 HC
      go_wp2
      exact ⟨⟨k + 1, by go_num, by omega, HB.out⟩, by simp [intOf]; omega⟩
    · have hltI : ¬ (k : Int) < len := by omega
      have hF0 := ((Crew.start w).below hB).made C 4 n (by rw [HC0.out]; simp [bools, bl]) (by omega)
      have e0 : C.toList = bools (bl (memB []) n) := by rw [HC0.out]
      rw [e0] at hF0
      have HF0 := Lib.hid hF0
      clear hF0 e0 hB
      go_wp2
      clear hmk
      generalize wr.heap.size = g at HF0 ⊢
      go_loopw [8, 9] (fun i _ wq => ∃ k : Nat, i = .int .i64 k ∧ k ≤ len ∧ (N.take k).Pairwise Apart ∧ Crew (fun _ => False) w [blT (.slice (some ⟨g, 0, none⟩) n n) (bl (memB (N.take k)) n) n] wq) (fun i _ _ => (len - intOf i).toNat)
      case atStart => exact ⟨0, rfl, Nat.zero_le _, List.Pairwise.nil, HF0.out⟩
      case round =>
        obtain ⟨k, rfl, hk, hpw, hF⟩ := hrel
        have HPW := Lib.hid hpw
        have HF1 := Lib.hid hF
        clear hpw hF
        by_cases hlt2 : k < len
        · have hltI2 : (k : Int) < len := by omega
          obtain ⟨x, rfl, c0, c1⟩ := HS.out wr HF1.out.bel k (by rw [HLL.out]; exact hlt2)
          rw [castS_getD] at c0 c1
          have HT := Lib.hid (take_snoc N k (0, 0) (by rw [HNL.out]; exact hlt2))
          have hfit := HFIT.out k hlt2
          generalize hsk : N.getD k (0, 0) = s at *
          have HSK := Lib.hid hsk
          clear hsk
          obtain ⟨s1, s2⟩ := s
          dsimp only at c0 c1 hfit
          go_wp2
          go_loopw [9] (fun i wq => ∃ y : Nat, i = .int .i64 y ∧ s1 ≤ y ∧ y ≤ s1 + s2 ∧ (∀ z, s1 ≤ z → z < y → memB (N.take k) z = false) ∧ Crew (fun _ => False) w [blT (.slice (some ⟨g, 0, none⟩) n n) (bl (fun z => memB (N.take k) z || inB (s1, y - s1) z) n) n] wq) (fun i _ => ((s1 : Int) + s2 - intOf i).toNat)
          case atStart =>
            refine ⟨s1, rfl, Nat.le_refl _, by omega, fun z h1 h2 => absurd h2 (by omega), ?_⟩
            have e : bl (fun z => memB (N.take k) z || inB (s1, s1 - s1) z) n = bl (memB (N.take k)) n := bl_congr fun z _ => by
              have : inB (s1, s1 - s1) z = false := by
                rw [Bool.eq_false_iff]
                intro e
                have := (inB_iff _ _).1 e
                dsimp only at this
                omega
              rw [this, Bool.or_false]
            rw [e]
            exact HF1.out
          case round =>
            obtain ⟨y, rfl, hy1, hy2, hfree, hF⟩ := hrel
            obtain ⟨x', ex, c0, c1⟩ := HS.out wr hF.bel k (by rw [HLL.out]; exact hlt2)
            cases ex
            rw [castS_getD] at c0 c1
            rw [HSK.out] at c0 c1
            dsimp only at c0 c1
            have HFR := Lib.hid hfree
            have HF2 := Lib.hid hF
            clear hfree hF
            by_cases hlt3 : y < s1 + s2
            · have hltI3 : (y : Int) < (s1 : Int) + s2 := by omega
              have hyn : y < n := by omega
              have hynI : (y : Int) < n := by omega
              have hno : inB (s1, y - s1) y = false := by
                rw [Bool.eq_false_iff]
                intro e
                have := (inB_iff _ _).1 e
                dsimp only at this
                omega
              have HNO := Lib.hid hno
              clear hno
              obtain ⟨d0, d1⟩ := HF2.out.cell 0 rfl (bools_get _ y (by rw [bl_length]; exact hyn))
              rw [bl_get _ _ _ hyn, HNO.out, Bool.or_false] at d0
              cases hm : memB (N.take k) y with
              | true =>
                rw [hm] at d0
                have HM := Lib.hid hm
                clear hm
                go_wp2_with fail
                go_quiet (fail)
                have HBQ := Lib.hid (below_drewN (Below.refl wr.heap.size wr) nq)
                have d0' : (wr.drewN nq).cell? ⟨g, y, none⟩ = some (.bool true) := d0
                clear c0 c1 d0 d1
                generalize wr.drewN nq = wq at *
                go_wp2
                go_ret2
                refine .inl ⟨rfl, fun hp => ?_, HF2.out.bel.trans (HBQ.out.mono HF2.out.bel.size)⟩
                have h2 : (N.take (k + 1)).Pairwise Apart := hp.sublist (List.take_sublist _ _)
                rw [HT.out, List.pairwise_append] at h2
                have h3 := HM.out
                rw [memB, List.any_eq_true] at h3
                obtain ⟨t, ht, hi⟩ := h3
                have h4 := h2.2.2 t ht (s1, s2) (by simp) y hi
                have h5 : inB (s1, s2) y = true := (inB_iff _ _).2 ⟨hy1, hlt3⟩
                rw [h5] at h4
                cases h4
              | false =>
                rw [hm] at d0
                have HM := Lib.hid hm
                clear hm
                have hset := HF2.out.put 0 rfl y (.bool true)
                rw [bools_set, bl_set] at hset
                have e : bl (fun z => if z = y then true else memB (N.take k) z || inB (s1, y - s1) z) n = bl (fun z => memB (N.take k) z || inB (s1, y + 1 - s1) z) n := bl_congr fun z _ => by
                  have e2 : inB (s1, y + 1 - s1) z = (decide (z = y) || inB (s1, y - s1) z) := by
                    rw [Bool.eq_iff_iff, Bool.or_eq_true, inB_iff, inB_iff, decide_eq_true_eq]
                    dsimp only
                    omega
                  rw [e2]
                  by_cases ez : z = y
                  · simp [ez]
                  · simp [ez]
                rw [e] at hset
                clear e
                have HF3 := Lib.hid hset
                clear hset
                go_wp2_with fail
                go_quiet (fail)
                have HBQ : Hid (Crew (fun _ => False) w [blT (.slice (some ⟨g, 0, none⟩) n n) (bl (fun z => memB (N.take k) z || inB (s1, y + 1 - s1) z) n) n] ((wr.drewN nq).setCell ⟨g, y, none⟩ (.bool true))) := HF3.out.below (below_drewN (Below.refl _ _) nq)
                have d0' : (wr.drewN nq).cell? ⟨g, y, none⟩ = some (.bool false) := d0
                have d1' : (wr.drewN nq).frozen? ⟨g, y, none⟩ = false := d1
                clear HF3 HF2 c0 c1 d0 d1
                generalize wr.drewN nq = wq at *
                go_wp2
                refine ⟨⟨y + 1, by go_num, by omega, by omega, fun z h1 h2 => ?_, HBQ.out⟩, by simp [intOf]; omega⟩
                by_cases e : z = y
                · subst e
                  exact HM.out
                · exact HFR.out z h1 (by omega)
            · have hltI3 : ¬ (y : Int) < (s1 : Int) + s2 := by omega
              have hye : y - s1 = s2 := by omega
              have HYE := Lib.hid hye
              clear hye
              go_wp2_with fail
              go_quiet (fail)
              have HF3 := Lib.hid (HF2.out.below (below_drewN (Below.refl wr.heap.size wr) nq))
              clear HF2 c0 c1
              generalize wr.drewN nq = wq at *
              go_wp2
              refine ⟨⟨k + 1, by go_num, by omega, ?_, ?_⟩, by simp [intOf]; omega⟩
              · rw [HT.out, List.pairwise_append]
                refine ⟨HPW.out, List.pairwise_singleton _ _, fun t ht u hu z hz => ?_⟩
                rw [List.mem_singleton] at hu
                subst hu
                rw [Bool.eq_false_iff]
                intro e
                have h1 := (inB_iff _ _).1 e
                dsimp only at h1
                have h2 := HFR.out z h1.1 (by omega)
                rw [Bool.eq_false_iff] at h2
                exact h2 (by rw [memB, List.any_eq_true]; exact ⟨t, ht, hz⟩)
              · have e : bl (memB (N.take (k + 1))) n = bl (fun z => memB (N.take k) z || inB (s1, y - s1) z) n := bl_congr fun z _ => by
                  rw [HT.out, memB_append, HYE.out]
                  simp [memB]
                rw [e]
                exact HF3.out
        · have hltI2 : ¬ (k : Int) < len := by omega
          have hkl : N.take k = N := List.take_of_length_le (by have := HNL.out; omega)
          rw [hkl] at HPW HF1
          clear hkl
          go_wp2
          go_ret2
          exact .inr ⟨_, rfl, HPW.out, HF1.out.fresh⟩

end Go.Proofs.YteellffkjjllgaaGreat

namespace Go.Proofs.YteellffkjjllgaaGreat
open Go.RowKit Go.Rc5

/-- What Norm (or Rest, with other marks f) answers of a row of which each span is inside. -/
def RowAt (N : List Sp) (f : Nat → Bool) (n : Nat) (w : World) (e : Ending) (w' : World) : Prop :=
  (e = .returned (.tuple #[.slice none 0 0, .int .i64 5]) ∧ ¬ N.Pairwise Apart ∧ Below w.heap.size w w') ∨
  ∃ v, e = .returned (.tuple #[v, .int .i64 0]) ∧ N.Pairwise Apart ∧ Fresh (spT v (castS (rows f n))) w w'

theorem bl_fun (f : Nat → Bool) (n : Nat) : rows (fun x => (bl f n).getD x false) n = rows f n := rows_congr fun x hx => bl_get f n x hx

theorem Fresh.held {v : Value} {B : List Bool} {n : Nat} {w w' : World} (h : Fresh (blT v B n) w w') : ∃ a c, v = .slice a n c ∧ BoolsAt w' a B ∧ B.length = n := by
  obtain ⟨O, ⟨ho, _⟩, _⟩ := h
  obtain ⟨a, c, rfl⟩ := own_slice ho
  obtain ⟨h1, h2⟩ := bools_own ho
  exact ⟨a, c, rfl, h2, h1⟩

theorem Fresh.bel {t : Thing 0} {w w' : World} (h : Fresh t w w') : Below w.heap.size w w' := by
  obtain ⟨_, _, hb, _⟩ := h
  exact hb

/-- What is made behind what was made. -/
theorem Fresh.behind {t : Thing 0} {w w1 w' : World} (hb : Below w.heap.size w w1) (h : Fresh t w1 w') : Fresh t w w' := by
  obtain ⟨O, h1, h2, h3⟩ := h
  exact ⟨O, h1, hb.trans (h2.mono hb.size), fun k hk => Nat.le_trans hb.size (h3 k hk)⟩

set_option maxHeartbeats 2000000 in
theorem rnorm_bad (L : List SpI) (a : Option Addr) (c len : Nat) (size : Int) (w : World) (h : SpansAt w a L) (hl : L.length = len) (hlen : len ≤ 100000) (hb : Bad L size) :
    Calls Tryz.prog 27 #[.slice a len c, .int .i64 size] w fun e w' => e = .returned (.tuple #[.slice none 0 0, .int .i64 11]) ∧ Below w.heap.size w w' := by
  have HM := Lib.hid (rmarks_bad L a c len size w h hl hlen hb)
  clear h hb hl
  go_enter Tryz.func27, Tryz.ntmps27
  go_wp2_with fail
  refine HM.out.mono ?_
  rintro e w1 ⟨rfl, hb1⟩
  go_wp2
  go_ret2
  exact ⟨rfl, hb1⟩

set_option maxHeartbeats 2000000 in
theorem rnorm_good (L : List SpI) (N : List Sp) (n : Nat) (a : Option Addr) (c len : Nat) (w : World) (h : SpansAt w a L) (hl : L.length = len) (hlen : len ≤ 100000) (hg : Fits L N n) :
    Calls Tryz.prog 27 #[.slice a len c, .int .i64 n] w (RowAt N (memB N) n w) := by
  have HM := Lib.hid (rmarks_good L N n a c len w h hl hlen hg)
  have hn := hg.hi
  clear h hl hg
  go_enter Tryz.func27, Tryz.ntmps27
  go_wp2_with fail
  refine HM.out.mono ?_
  rintro e w1 (⟨rfl, hp, hb1⟩ | ⟨v, rfl, hp, hf⟩)
  · have HP := Lib.hid hp
    clear hp HM
    go_wp2
    go_ret2
    exact .inl ⟨rfl, HP.out, hb1⟩
  · have HP := Lib.hid hp
    have HF := Lib.hid hf
    obtain ⟨a1, c1, rfl, hbl, hbn⟩ := hf.held
    have HR := Lib.hid (rrow_any (bl (memB N) n) a1 c1 n w1 hbl hbn hn)
    clear hp hf hbl hbn HM
    go_wp2_with fail
    refine HR.out.mono ?_
    rintro e w2 ⟨v, rfl, hf2⟩
    rw [bl_fun] at hf2
    have HF2 := Lib.hid (hf2.behind HF.out.bel)
    clear hf2
    go_wp2
    go_ret2
    exact .inr ⟨v, rfl, HP.out, HF2.out⟩

end Go.Proofs.YteellffkjjllgaaGreat

namespace Go.Proofs.YteellffkjjllgaaGreat
open Go.RowKit Go.Rc5 Go.Shelf

attribute [local go_sem] Oper.semAt_some

/-- A span as yield's argument. -/
def encS (s : SpI) : Array Value := #[.agg #[.int .i64 s.1, .int .i64 s.2]]

theorem Crew.turns {U : Nat → Prop} {w0 w : World} {t : Thing 0} (h : Crew U w0 [t] w) : Turns t U w0 w := by
  obtain ⟨O, ho, _, _, hU⟩ := h.one (i := 0) rfl
  exact ⟨O, ho, h.mv, hU⟩

theorem add_block (x : Addr) (n : Nat) : (x.add n).block = x.block := by unfold Addr.add; split <;> rfl

theorem SpansAt.same {w w' : World} {a : Option Addr} {L : List SpI} (h : SpansAt w a L) (hb : ∀ x, a = some x → x.block < w.heap.size → w'.heap[x.block]? = w.heap[x.block]?) : SpansAt w' a L := by
  intro i hi
  obtain ⟨x, rfl, c0, c1⟩ := h i hi
  have hlt : x.block < w.heap.size := by
    have := World.block_lt_of_cell? w _ c0
    rwa [add_block] at this
  have e := hb x rfl hlt
  refine ⟨x, rfl, ?_, ?_⟩
  · rw [← c0]
    exact World.cell?_of_block (by rw [add_block]; exact e)
  · rw [← c1]
    exact World.cell?_of_block (by show w'.heap[(x.add (i * 2)).block]? = w.heap[(x.add (i * 2)).block]?; rw [add_block]; exact e)

set_option maxHeartbeats 1000000 in
theorem values_any (a : Option Addr) (len c : Nat) (w : World) :
    Calls Tryz.prog 46 #[.slice a len c] w fun e w' => e = .returned (.func (.func 72) #[] #[.pointer (some ⟨w.heap.size, 0, none⟩)]) ∧ w' = w.alloc (.cells #[.slice a len c] 23) := by
  go_enter Tryz.func46, Tryz.ntmps46
  go_wp2
  go_ret
  exact ⟨rfl, rfl⟩

set_option maxHeartbeats 1000000 in
theorem full_any (a : Option Addr) (len c : Nat) (w : World) :
    Calls Tryz.prog 77 #[.slice a len c] w fun e w' => e = .returned (.func (.func 86) #[] #[.pointer (some ⟨w.heap.size, 0, none⟩)]) ∧ w' = w.alloc (.cells #[.slice a len c] 23) := by
  go_enter Tryz.func77, Tryz.ntmps77
  go_wp2
  go_ret
  exact ⟨rfl, rfl⟩

set_option maxHeartbeats 1000000 in
theorem gaps_any (g : Nat) (lb : Array Value) (size : Int) (w : World) :
    Calls Tryz.prog 45 #[.func (.func g) #[] lb, .int .i64 size] w fun e w' => e = .returned (.func (.func 71) #[] #[.pointer (some ⟨w.heap.size, 0, none⟩), .pointer (some ⟨w.heap.size + 1, 0, none⟩)]) ∧
      w' = (w.alloc (.cells #[.func (.func g) #[] lb] 83)).alloc (.cells #[.int .i64 size] 3) := by
  go_enter Tryz.func45, Tryz.ntmps45
  go_wp2
  go_ret
  exact ⟨rfl, rfl⟩

/-- The blocks that an iterator over a row reads. -/
def rowR (n0 : Nat) (a : Option Addr) (B : Nat) (k : Nat) : Prop := k = B ∨ (k < n0 ∧ ∃ x, a = some x ∧ k = x.block)

theorem spans_reads {w W0 : World} {a : Option Addr} {L : List SpI} (h : SpansAt w a L) (hb : Below w.heap.size w W0) : ∀ W', (∀ x, a = some x → x.block < w.heap.size → W'.heap[x.block]? = W0.heap[x.block]?) → SpansAt W' a L :=
  fun _ hk => SpansAt.same h fun x hx hlt => (hk x hx hlt).trans (hb.block _ hlt)

theorem take_pre (L : List SpI) (k : Nat) (h : k < L.length) : L.take k ++ [L.getD k (0, 0)] <+: L := by
  rw [← take_snoc L k (0, 0) h]
  exact List.take_prefix _ _

set_option maxRecDepth 100000 in
set_option maxHeartbeats 4000000 in
theorem values_gives (L : List SpI) (a : Option Addr) (c len B : Nat) (W0 : World) (hB : W0.heap[B]? = some (.cells #[.slice a len c] 23 (0, 0))) (n0 : Nat) (hn0 : n0 ≤ W0.heap.size) (h : ∀ W', (∀ x, a = some x → x.block < n0 → W'.heap[x.block]? = W0.heap[x.block]?) → SpansAt W' a L) (hl : L.length = len) (hlen : len ≤ 1000000) :
    Gives Tryz.prog 72 #[.pointer (some ⟨B, 0, none⟩)] encS L (rowR n0 a B) W0 := by
  refine ⟨?_, ?_⟩
  · rintro k (rfl | ⟨h, _⟩)
    · exact (Array.getElem?_eq_some_iff.1 hB).1
    · exact Nat.lt_of_lt_of_le h hn0
  intro l J Jx O W hsz hR hO h0 hY
  have cB : W.cell? ⟨B, 0, none⟩ = some (.slice a len c) := by
    have := (hR B (.inl rfl)).trans hB
    exact (Lib.cell_of_heap this 0).trans rfl
  have HS : Hid (∀ W', Moved O W W' → SpansAt W' a L) := fun W' hm => h W' fun x hx hlt => by
    have hr : rowR n0 a B x.block := .inr ⟨hlt, x, hx, rfl⟩
    exact (hm.block x.block (by omega) (hO _ hr)).trans (hR _ hr)
  have HY := Lib.hid hY
  have HL := Lib.hid hl
  have H0 := Lib.hid (Crew.only h0)
  clear h hB hR hO hY h0 hl
  refine (callsIn_wide (n := 3)).1 (callsIn_of_wp Tryz.func72 rfl trivial ?_ rfl)
  simp only [Tryz.ntmps72, List.size_toArray, List.length_cons, List.length_nil, Nat.reduceAdd, Nat.reduceSub, Array.replicate_succ, Array.replicate_zero, List.push_toArray, List.append_toArray, List.nil_append, List.cons_append]
  gi_wp2
  gi_loopw [7] (fun i wr => ∃ k : Nat, i = .int .i64 k ∧ k ≤ len ∧ Crew O W [J (L.take k)] wr) (fun i _ => len - (intOf i).toNat)
  case atStart => exact ⟨0, rfl, Nat.zero_le _, H0.out⟩
  case round =>
    obtain ⟨k, rfl, hk, C⟩ := hrel
    have HC := Lib.hid C
    clear C
    by_cases hlt : k < len
    · have hltI : (k : Int) < len := by omega
      obtain ⟨x, rfl, c0, c1⟩ := HS.out wr HC.out.mv k (by rw [HL.out]; exact hlt)
      have HP := Lib.hid (take_pre L k (by rw [HL.out]; exact hlt))
      have HT := Lib.hid (take_snoc L k (0, 0) (by rw [HL.out]; exact hlt))
      have HC1 := Lib.hid (HC.out.block #[.int .i64 (L.getD k (0, 0)).1, .int .i64 (L.getD k (0, 0)).2] 38)
      generalize L.getD k (0, 0) = s at *
      obtain ⟨s1, s2⟩ := s
      dsimp only at c0 c1 HC1
      obtain ⟨O', ho, hset, _⟩ := HC1.out.one (i := 0) rfl
      have HSET := Lib.hid hset
      obtain ⟨fn, tmps, assign, body, hy, hR⟩ := HY.out _ _ _ _ HP.out ho
      have HRR := Lib.hid hR
      clear hR hset ho
      dsimp only [encS] at hy
      gi_wp2
      refine (show RoundIn Fence.wide _ _ _ _ _ _ _ _ _ from ⟨HRR.out.1, fun c cs _ => HRR.out.2 c cs (room_wide _)⟩).mono ?_
      rintro e W3 (⟨rfl, hT⟩ | ⟨rfl, hT⟩)
      · have C3 := Crew.first (l := [_]) (HSET.out _ _ hT)
        rw [← HT.out] at C3
        have HC3 := Lib.hid C3
        clear hT C3
        gi_wp2
        go_roundw
        case rel => exact ⟨k + 1, by simp, by omega, HC3.out⟩
        case measure => simp [intOf]; omega
      · have C3 := Crew.first (l := [_]) (HSET.out _ _ hT)
        have HC3 := Lib.hid C3
        clear hT C3
        gi_wp2
        refine bodyPost_ret (results_none rfl _ _ _) rfl ?_
        exact ⟨⟨_, rfl⟩, .inr ⟨_, HP.out, HC3.out.turns⟩⟩
    · have hltI : ¬ (k : Int) < len := by omega
      have e : L.take k = L := List.take_of_length_le (by have := HL.out; omega)
      rw [e] at HC
      gi_wp2
      go_end0
      exact ⟨⟨_, rfl⟩, .inl HC.out.turns⟩

end Go.Proofs.YteellffkjjllgaaGreat

namespace Go.Rc5

/-- Where the next gap begins. -/
def nxI (next : Int) : List SpI → Int
  | [] => next
  | s :: r => nxI (s.1 + s.2) r

/-- The gaps ahead of the spans. -/
def gpI (next : Int) : List SpI → List SpI
  | [] => []
  | s :: r => (if next < s.1 then [(next, s.1 - next)] else []) ++ gpI (s.1 + s.2) r

def gapsI (l : List SpI) (size : Int) : List SpI := gpI 0 l ++ (if nxI 0 l < size then [(nxI 0 l, size - nxI 0 l)] else [])

theorem nxI_snoc (next : Int) (l : List SpI) (s : SpI) : nxI next (l ++ [s]) = s.1 + s.2 := by
  induction l generalizing next with
  | nil => rfl
  | cons t r ih => exact ih _

theorem gpI_snoc (next : Int) (l : List SpI) (s : SpI) : gpI next (l ++ [s]) = gpI next l ++ (if nxI next l < s.1 then [(nxI next l, s.1 - nxI next l)] else []) := by
  induction l generalizing next with
  | nil => by_cases h : next < s.1 <;> simp [gpI, nxI, h]
  | cons t r ih =>
    rw [List.cons_append]
    unfold gpI nxI
    rw [ih, List.append_assoc]

theorem gpI_append (next : Int) (l l' : List SpI) : gpI next (l ++ l') = gpI next l ++ gpI (nxI next l) l' := by
  induction l generalizing next with
  | nil => rfl
  | cons t r ih => simp [gpI, nxI, ih]

/-- The sectors lie in a small range. -/
def Small (l : List SpI) : Prop := ∀ s ∈ l, 0 ≤ s.1 ∧ 0 ≤ s.2 ∧ s.1 + s.2 ≤ 8192

theorem nxI_small {l : List SpI} (h : Small l) : 0 ≤ nxI 0 l ∧ nxI 0 l ≤ 8192 := by
  have : ∀ (next : Int), 0 ≤ next ∧ next ≤ 8192 → 0 ≤ nxI next l ∧ nxI next l ≤ 8192 := by
    induction l with
    | nil => exact fun _ hn => hn
    | cons t r ih =>
      intro next _
      have ht := h t List.mem_cons_self
      exact ih (fun s hs => h s (List.mem_cons_of_mem _ hs)) _ ⟨by omega, by omega⟩
  exact this 0 ⟨by omega, by omega⟩

theorem gpI_pre {l : List SpI} {pre : List SpI} {s : SpI} (h : pre ++ [s] <+: l) : gpI 0 (pre ++ [s]) <+: gpI 0 l := by
  obtain ⟨r, rfl⟩ := h
  rw [gpI_append 0 (pre ++ [s]) r]
  exact List.prefix_append _ _

theorem gpI_gaps (l : List SpI) (size : Int) : gpI 0 l <+: gapsI l size := List.prefix_append _ _

end Go.Rc5
namespace Go.Proofs.YteellffkjjllgaaGreat
open Go.RowKit Go.Rc5 Go.Shelf

attribute [local go_sem] Oper.semAt_some


theorem filter_pre (L : List SpI) (p : SpI → Bool) (k : Nat) (h : k < L.length) (hp : p (L.getD k (0, 0)) = true) : (L.take k).filter p ++ [L.getD k (0, 0)] <+: L.filter p := by
  have e : (L.take (k + 1)).filter p = (L.take k).filter p ++ [L.getD k (0, 0)] := by
    rw [take_snoc L k (0, 0) h, List.filter_append, List.filter_cons_of_pos hp, List.filter_nil]
  rw [← e]
  exact (List.take_prefix _ _).filter p

set_option maxRecDepth 100000 in
set_option maxHeartbeats 4000000 in
theorem full_gives (L : List SpI) (a : Option Addr) (c len B : Nat) (W0 : World) (hB : W0.heap[B]? = some (.cells #[.slice a len c] 23 (0, 0))) (n0 : Nat) (hn0 : n0 ≤ W0.heap.size) (h : ∀ W', (∀ x, a = some x → x.block < n0 → W'.heap[x.block]? = W0.heap[x.block]?) → SpansAt W' a L) (hl : L.length = len) (hlen : len ≤ 1000000) :
    Gives Tryz.prog 86 #[.pointer (some ⟨B, 0, none⟩)] encS (L.filter fun s => decide (1 ≤ s.2)) (rowR n0 a B) W0 := by
  refine ⟨?_, ?_⟩
  · rintro k (rfl | ⟨h, _⟩)
    · exact (Array.getElem?_eq_some_iff.1 hB).1
    · exact Nat.lt_of_lt_of_le h hn0
  intro l J Jx O W hsz hR hO h0 hY
  have cB : W.cell? ⟨B, 0, none⟩ = some (.slice a len c) := by
    have := (hR B (.inl rfl)).trans hB
    exact (Lib.cell_of_heap this 0).trans rfl
  have HS : Hid (∀ W', Moved O W W' → SpansAt W' a L) := fun W' hm => h W' fun x hx hlt => by
    have hr : rowR n0 a B x.block := .inr ⟨hlt, x, hx, rfl⟩
    exact (hm.block x.block (by omega) (hO _ hr)).trans (hR _ hr)
  have HY := Lib.hid hY
  have HL := Lib.hid hl
  have H0 := Lib.hid (Crew.only h0)
  clear h hB hR hO hY h0 hl
  refine (callsIn_wide (n := 3)).1 (callsIn_of_wp Tryz.func86 rfl trivial ?_ rfl)
  simp only [Tryz.ntmps86, List.size_toArray, List.length_cons, List.length_nil, Nat.reduceAdd, Nat.reduceSub, Array.replicate_succ, Array.replicate_zero, List.push_toArray, List.append_toArray, List.nil_append, List.cons_append]
  gi_wp2
  gi_loopw [7] (fun i wr => ∃ k : Nat, i = .int .i64 k ∧ k ≤ len ∧ Crew O W [J ((L.take k).filter fun s => decide (1 ≤ s.2))] wr) (fun i _ => len - (intOf i).toNat)
  case atStart => exact ⟨0, rfl, Nat.zero_le _, H0.out⟩
  case round =>
    obtain ⟨k, rfl, hk, C⟩ := hrel
    have HC := Lib.hid C
    clear C
    by_cases hlt : k < len
    · have hltI : (k : Int) < len := by omega
      obtain ⟨x, rfl, c0, c1⟩ := HS.out wr HC.out.mv k (by rw [HL.out]; exact hlt)
      have HP := Lib.hid (filter_pre L (fun s => decide (1 ≤ s.2)) k (by rw [HL.out]; exact hlt))
      have HT := Lib.hid (take_snoc L k (0, 0) (by rw [HL.out]; exact hlt))
      have HC1 := Lib.hid (HC.out.block #[.int .i64 (L.getD k (0, 0)).1, .int .i64 (L.getD k (0, 0)).2] 38)
      generalize L.getD k (0, 0) = s at *
      obtain ⟨s1, s2⟩ := s
      dsimp only at c0 c1 HC1 HP
      by_cases hm : 1 ≤ s2
      · have hp := HP.out (decide_eq_true hm)
        have HF : Hid ((L.take (k + 1)).filter (fun s => decide (1 ≤ s.2)) = (L.take k).filter (fun s => decide (1 ≤ s.2)) ++ [(s1, s2)]) := by
          unfold Hid
          rw [HT.out, List.filter_append, List.filter_cons_of_pos (by simpa using hm), List.filter_nil]
        obtain ⟨O', ho, hset, _⟩ := HC1.out.one (i := 0) rfl
        have HSET := Lib.hid hset
        obtain ⟨fn, tmps, assign, body, hy, hR⟩ := HY.out _ _ _ _ hp ho
        have HRR := Lib.hid hR
        have HPP := Lib.hid hp
        clear hR hset ho hp
        dsimp only [encS] at hy
        gi_wp2
        refine (show RoundIn Fence.wide _ _ _ _ _ _ _ _ _ from ⟨HRR.out.1, fun c cs _ => HRR.out.2 c cs (room_wide _)⟩).mono ?_
        rintro e W3 (⟨rfl, hT⟩ | ⟨rfl, hT⟩)
        · have C3 := Crew.first (l := [_]) (HSET.out _ _ hT)
          rw [← HF.out] at C3
          have HC3 := Lib.hid C3
          clear hT C3
          gi_wp2
          go_roundw
          case rel => exact ⟨k + 1, by simp, by omega, HC3.out⟩
          case measure => simp [intOf]; omega
        · have C3 := Crew.first (l := [_]) (HSET.out _ _ hT)
          have HC3 := Lib.hid C3
          clear hT C3
          gi_wp2
          refine bodyPost_ret (results_none rfl _ _ _) rfl ?_
          exact ⟨⟨_, rfl⟩, .inr ⟨_, HPP.out, HC3.out.turns⟩⟩
      · have HF : Hid ((L.take (k + 1)).filter (fun s => decide (1 ≤ s.2)) = (L.take k).filter (fun s => decide (1 ≤ s.2))) := by
          unfold Hid
          rw [HT.out, List.filter_append, List.filter_cons_of_neg (by simpa using hm), List.filter_nil, List.append_nil]
        have C3 := Crew.first (l := [_]) HC1.out
        rw [← HF.out] at C3
        have HC3 := Lib.hid C3
        clear C3
        gi_wp2
        try refine ⟨fun _ h => (by cases h), ?_⟩
        gi_wp2
        go_roundw
        case rel => exact ⟨k + 1, by simp, by omega, HC3.out⟩
        case measure => simp [intOf]; omega
    · have hltI : ¬ (k : Int) < len := by omega
      have e : L.take k = L := List.take_of_length_le (by have := HL.out; omega)
      rw [e] at HC
      gi_wp2
      go_end0
      exact ⟨⟨_, rfl⟩, .inl HC.out.turns⟩


set_option maxRecDepth 100000 in
set_option maxHeartbeats 8000000 in
theorem gaps_gives (xs : List SpI) (n : Nat) (hn : n ≤ 8192) (hx : Small xs) (g : Nat) (lb : Array Value) (R : Nat → Prop) (W0 : World) (hg : Gives Tryz.prog g lb encS xs R W0) (eg : ∀ args w, (callFunc g args).run Tryz.prog w = .ok (.enter g args) w)
    (W1 : World) (hs1 : W0.heap.size ≤ W1.heap.size) (hR1 : ∀ k, R k → W1.heap[k]? = W0.heap[k]?) (B B' : Nat) (hB : W1.heap[B]? = some (.cells #[.func (.func g) #[] lb] 83 (0, 0))) (hB' : W1.heap[B']? = some (.cells #[.int .i64 n] 3 (0, 0))) :
    Gives Tryz.prog 71 #[.pointer (some ⟨B, 0, none⟩), .pointer (some ⟨B', 0, none⟩)] encS (gapsI xs n) (fun k => k = B ∨ k = B' ∨ R k) W1 := by
  have hBl := (Array.getElem?_eq_some_iff.1 hB).1
  have hBl' := (Array.getElem?_eq_some_iff.1 hB').1
  have hg1 := hg.later hs1 hR1
  refine ⟨?_, ?_⟩
  · rintro k (rfl | rfl | h)
    · exact hBl
    · exact hBl'
    · exact hg1.1 k h
  intro l J Jx O W hsz hR hO h0 hY
  have CF : Hid (∀ W', Moved O W W' → W'.cell? ⟨B, 0, none⟩ = some (.func (.func g) #[] lb)) := fun W' hm => by
    have := (hm.block B (by omega) (hO B (.inl rfl))).trans ((hR B (.inl rfl)).trans hB)
    exact (Lib.cell_of_heap this 0).trans rfl
  have CB : Hid (∀ W', Moved O W W' → W'.cell? ⟨B', 0, none⟩ = some (.int .i64 n)) := fun W' hm => by
    have := (hm.block B' (by omega) (hO B' (.inr (.inl rfl)))).trans ((hR B' (.inr (.inl rfl))).trans hB')
    exact (Lib.cell_of_heap this 0).trans rfl
  have HRO : Hid (∀ k, R k → k < W.heap.size ∧ ¬ O k) := fun k hk => ⟨Nat.lt_of_lt_of_le (hg1.1 k hk) hsz, hO k (.inr (.inr hk))⟩
  have HRW : Hid (∀ k, R k → W.heap[k]? = W1.heap[k]?) := fun k hk => hR k (.inr (.inr hk))
  have HG := Lib.hid hg1
  have HSZ := Lib.hid hsz
  have HX := Lib.hid hx
  have HEG := Lib.hid eg
  have HY := Lib.hid hY
  have H0 := ((Crew.only h0).idle.block #[.func (.yield l) #[] #[]] 111).block #[.int .i64 0] 3
  rw [World.size_alloc] at H0
  have hCF := CF.out _ H0.mv
  replace H0 : Hid (Crew O W [noT, groupT [J [], blkT W.heap.size #[.func (.yield l) #[] #[]] 111, blkT (W.heap.size + 1) #[.int .i64 0] 3]] _) := (H0.pick [1, 0, 2, 3] (by decide) rfl).grp
  clear hg hg1 eg hsz hs1 hR1 hBl hBl' hx hB hB' hR hO hY h0 CF
  refine (callsIn_wide (n := 3)).1 (callsIn_of_wp_marks Tryz.func71 rfl trivial ?_ rfl)
  simp only [Tryz.ntmps71, List.size_toArray, List.length_cons, List.length_nil, Nat.reduceAdd, Nat.reduceSub, Array.replicate_succ, Array.replicate_zero, List.push_toArray, List.append_toArray, List.nil_append, List.cons_append]
  gi_wp2
  refine wpIn_range (gf := g) (lb := lb) rfl HEG.out HG.out (by have := H0.out.size; have := HSZ.out; omega) (fun k hk => (H0.out.mv.block k (HRO.out k hk).1 (HRO.out k hk).2).trans (HRW.out k hk)) (fun _ => rfl)
    (fun pre => groupT [J (gpI 0 pre), blkT W.heap.size #[.func (.yield l) #[] #[]] 111, blkT (W.heap.size + 1) #[.int .i64 (nxI 0 pre)] 3])
    (fun c _ => withT (c = .ret) (exT fun q : List SpI => withT (q <+: gapsI xs n) (Jx q)))
    (fun pre x a' => exT fun Bx : Nat => withT (a' = { tmps := #[.func (.yield l) #[] #[], .pointer (some ⟨B, 0, none⟩), .pointer (some ⟨B', 0, none⟩), .pointer (some ⟨W.heap.size, 0, none⟩), .pointer (some ⟨W.heap.size + 1, 0, none⟩), .pointer (some ⟨Bx, 0, none⟩), .func (.func g) #[] lb, .agg #[.int .i64 x.1, .int .i64 x.2], undef, undef, undef, undef, undef, undef, undef, undef, undef, undef, undef, undef, undef, undef, undef, undef, undef, undef, undef, undef, undef, undef, undef, undef, undef, undef, undef, undef, undef, undef], defers := [] })
      (groupT [J (gpI 0 pre), blkT W.heap.size #[.func (.yield l) #[] #[]] 111, blkT (W.heap.size + 1) #[.int .i64 (nxI 0 pre)] 3, blkT Bx #[.int .i64 x.1, .int .i64 x.2] 38]))
    H0.out (fun OS _ _ k hk => .inr (HRO.out k hk)) ?assign ?body ?done ?stop
  case assign =>
    intro l' pre x O' W' K hI hK
    have C := (groupT_open hI).block #[.int .i64 x.1, .int .i64 x.2] 38
    have HT := Lib.hid (groupT_shut C)
    have HK := Lib.hid hK
    clear C hI hK
    dsimp only [encS]
    gi_wp2
    exact HK.out _ _ (Turns.ex W'.heap.size (Turns.and rfl HT.out))
  case body =>
    rintro l' pre x a' O' W' hpre ⟨Bx, rfl, hgrp⟩
    have C := groupT_open hgrp
    have hsm : Small (pre ++ [x]) := fun s hs => HX.out s (hpre.subset hs)
    have hq := nxI_small (l := pre) (fun s hs => hsm s (List.mem_append_left _ hs))
    have hxx := hsm x (by simp)
    have HN := Lib.hid (nxI_snoc 0 pre x)
    have HP := Lib.hid (gpI_snoc 0 pre x)
    have HPP := Lib.hid ((gpI_pre hpre).trans (gpI_gaps xs n))
    obtain ⟨x1, x2⟩ := x
    have cy := (C.at 1 rfl (j := 0) rfl).1
    have cn := (C.at 2 rfl (j := 0) rfl).1
    have fn0 := (C.at 2 rfl (j := 0) rfl).2
    have cx := (C.at 3 rfl (j := 0) rfl).1
    have cx1 := (C.at 3 rfl (j := 1) rfl).1
    have HC := Lib.hid C
    clear C hgrp hsm hpre
    dsimp only at hxx HN HP cx cx1
    generalize nxI 0 pre = q at *
    by_cases hlt : q < x1
    · rw [if_pos hlt] at HP
      obtain ⟨OJ, ho, hset, _⟩ := HC.out.one (i := 0) rfl
      have HSET := Lib.hid hset
      obtain ⟨fn, tmps, assign, body, hy, hR⟩ := HY.out (gpI 0 pre) (q, x1 - q) OJ W' (by rw [← HP.out]; exact HPP.out) ho
      have HRR := Lib.hid hR
      clear hR hset ho
      dsimp only [encS] at hy
      gi_wp2
      refine (show RoundIn (Fence.wide.inRound l') _ _ _ _ _ _ _ _ _ from ⟨trivial, fun c cs _ => HRR.out.2 c cs (room_wide _)⟩).mono ?_
      rintro e W3 (⟨rfl, hT⟩ | ⟨rfl, hT⟩)
      · have C3 := HSET.out _ _ hT
        have cx' := (C3.at 3 rfl (j := 0) rfl).1
        have cx1' := (C3.at 3 rfl (j := 1) rfl).1
        have cn' := (C3.at 2 rfl (j := 0) rfl).1
        have fn' := (C3.at 2 rfl (j := 0) rfl).2
        have C4 := C3.set 2 rfl 0 (.int .i64 (x1 + x2))
        replace C4 : Crew O' W' [J (gpI 0 (pre ++ [(x1, x2)])), blkT W.heap.size #[.func (.yield l) #[] #[]] 111, blkT (W.heap.size + 1) #[.int .i64 (nxI 0 (pre ++ [(x1, x2)]))] 3] (W3.setCell ⟨W.heap.size + 1, 0, none⟩ (.int .i64 (x1 + x2))) := by
          rw [HN.out, HP.out]
          exact C4.pick [0, 1, 2] (by decide) rfl
        have HC4 := Lib.hid (groupT_shut C4)
        clear C3 C4 hT cx cx1 cy cn fn0
        gi_wp2
        exact HC4.out
      · have C3 := HSET.out _ _ hT
        have HC3 := Lib.hid (C3.pick [0] (by decide) rfl).turns
        clear C3 hT
        gi_wp2
        exact Turns.and rfl (Turns.ex _ (Turns.and (by rw [← HP.out]; exact HPP.out) HC3.out))
    · rw [if_neg hlt, List.append_nil] at HP
      have C4 := HC.out.set 2 rfl 0 (.int .i64 (x1 + x2))
      replace C4 : Crew O' W' [J (gpI 0 (pre ++ [(x1, x2)])), blkT W.heap.size #[.func (.yield l) #[] #[]] 111, blkT (W.heap.size + 1) #[.int .i64 (nxI 0 (pre ++ [(x1, x2)]))] 3] (W'.setCell ⟨W.heap.size + 1, 0, none⟩ (.int .i64 (x1 + x2))) := by
        rw [HN.out, HP.out]
        exact C4.pick [0, 1, 2] (by decide) rfl
      have HC4 := Lib.hid (groupT_shut C4)
      clear C4
      gi_wp2
      try refine ⟨fun _ h => (by cases h), ?_⟩
      gi_wp2
      exact HC4.out
  case done =>
    intro D W3 C
    have C := C.spill 1 rfl
    have hq := nxI_small HX.out
    have cy := (C.at 4 rfl (j := 0) rfl).1
    have cn := (C.at 5 rfl (j := 0) rfl).1
    have cz := CB.out _ C.mv
    have HC := Lib.hid C
    clear C
    have HGP : Hid (gapsI xs n = gpI 0 xs ++ (if nxI 0 xs < n then [(nxI 0 xs, n - nxI 0 xs)] else [])) := rfl
    generalize nxI 0 xs = q at *
    by_cases hlt : q < (n : Int)
    · rw [if_pos hlt] at HGP
      obtain ⟨OJ, ho, hset, _⟩ := HC.out.one (i := 3) rfl
      have HSET := Lib.hid hset
      obtain ⟨fn, tmps, assign, body, hy, hR⟩ := HY.out (gpI 0 xs) (q, n - q) OJ W3 (by rw [← HGP.out]; exact List.prefix_refl _) ho
      have HRR := Lib.hid hR
      clear hR hset ho
      dsimp only [encS] at hy
      gi_wp2
      refine (show RoundIn Fence.wide _ _ _ _ _ _ _ _ _ from ⟨trivial, fun c cs _ => HRR.out.2 c cs (room_wide _)⟩).mono ?_
      rintro e W4 (⟨rfl, hT⟩ | ⟨rfl, hT⟩)
      · have C3 := HSET.out _ _ hT
        rw [← HGP.out] at C3
        have hD := C3.obj 2 rfl
        have HC4 := Lib.hid ((C3.objPut 2 rfl (.deferred none)).pick [3] (by decide) rfl).turns
        clear C3 hT
        gi_wp2
        refine ⟨by simp, .inl ⟨_, _, rfl, run_takeDeferred hD, ?_⟩⟩
        exact ⟨_, results_none rfl _ _ _, ⟨_, rfl⟩, .inl HC4.out⟩
      · have C3 := HSET.out _ _ hT
        have hD := C3.obj 2 rfl
        have HC4 := Lib.hid ((C3.objPut 2 rfl (.deferred none)).pick [3] (by decide) rfl).turns
        clear C3 hT
        gi_wp2
        refine ⟨by simp, .inl ⟨_, _, rfl, run_takeDeferred hD, ?_⟩⟩
        exact ⟨_, results_none rfl _ _ _, ⟨_, rfl⟩, .inr ⟨_, by rw [HGP.out]; exact List.prefix_refl _, HC4.out⟩⟩
    · rw [if_neg hlt, List.append_nil] at HGP
      have hD := HC.out.obj 2 rfl
      have C4 := ((HC.out.objPut 2 rfl (.deferred none)).pick [3] (by decide) rfl).turns
      have HC4 : Hid (Turns (J (gapsI xs n)) O W (W3.putObj D (.deferred none))) := by
        unfold Hid
        rw [HGP.out]
        exact C4
      clear C4
      gi_wp2
      refine ⟨by simp, .inl ⟨_, _, rfl, run_takeDeferred hD, ?_⟩⟩
      exact ⟨_, results_none rfl _ _ _, ⟨_, rfl⟩, .inl HC4.out⟩
  case stop =>
    intro D c pre W3 _ C
    obtain ⟨rfl, C⟩ := C.with 1 rfl
    obtain ⟨q, C⟩ := C.ex 1 rfl
    obtain ⟨hq, C⟩ := C.with 1 rfl
    have hD := C.obj 2 rfl
    have HC4 := Lib.hid ((C.objPut 2 rfl (.deferred none)).pick [1] (by decide) rfl).turns
    clear C
    gi_wp2
    refine ⟨by simp, .inl ⟨_, _, rfl, run_takeDeferred hD, ?_⟩⟩
    exact ⟨_, results_none rfl _ _ _, ⟨_, rfl⟩, .inr ⟨_, hq, HC4.out⟩⟩


set_option maxRecDepth 100000 in
set_option maxHeartbeats 8000000 in
theorem appendseq_any (xs : List SpI) (hlen : xs.length ≤ 1000000) (g : Nat) (lb : Array Value) (R : Nat → Prop) (W0 : World) (hg : Gives Tryz.prog g lb encS xs R W0) (eg : ∀ args w, (callFunc g args).run Tryz.prog w = .ok (.enter g args) w)
    (w : World) (hs : W0.heap.size ≤ w.heap.size) (hR : ∀ k, R k → w.heap[k]? = W0.heap[k]?) :
    Calls Tryz.prog 70 #[.slice none 0 0, .func (.func g) #[] lb] w fun e w' => ∃ v, e = .returned v ∧ Fresh (spT v xs) w w' := by
  have HR : Hid (∀ k, R k → k < w.heap.size) := fun k hk => Nat.lt_of_lt_of_le (hg.1 k hk) hs
  have HG := Lib.hid (hg.later hs hR)
  have HEG := Lib.hid eg
  have H0 := ((Crew.start w).idle.block #[.slice none 0 0] 23).nil 38 2
  have HB : Hid (∀ k, R k → (w.alloc (.cells #[.slice none 0 0] 23)).heap[k]? = w.heap[k]?) := fun k hk => Below.heap_alloc _ _ _ (HR.out k hk)
  have H1 : Crew (fun _ => False) w [noT, exT fun v => groupT [blkT w.heap.size #[v] 23, spT v []]] (w.alloc (.cells #[.slice none 0 0] 23)) := by
    have h := Crew.grp (t := noT) (l := [blkT w.heap.size #[.slice none 0 0] 23, spT (.slice none 0 0) []]) H0
    obtain ⟨O, ho, hset, _⟩ := h.one (i := 1) rfl
    exact hset _ _ (Turns.ex (.slice none 0 0) (Turns.same ho))
  have HC := Lib.hid H1
  clear hg eg hs hR H0 H1
  refine (callsIn_wide (n := 3)).1 (callsIn_of_wp_marks Tryz.func70 rfl trivial ?_ rfl)
  simp only [Tryz.ntmps70, List.size_toArray, List.length_cons, List.length_nil, Nat.reduceAdd, Nat.reduceSub, Array.replicate_succ, Array.replicate_zero, List.push_toArray, List.append_toArray, List.nil_append, List.cons_append]
  gi_wp2
  refine wpIn_range (gf := g) (lb := lb) rfl HEG.out HG.out (by simp) HB.out (fun _ => rfl)
    (fun pre => exT fun v => groupT [blkT w.heap.size #[v] 23, spT v pre])
    (fun _ _ => withT False noT)
    (fun pre x a' => exT fun p : Value × Nat => withT (a' = { tmps := #[.slice none 0 0, .func (.func g) #[] lb, .pointer (some ⟨w.heap.size, 0, none⟩), undef, .slice none 0 0, .pointer (some ⟨p.2, 0, none⟩), .func (.func g) #[] lb, .agg #[.int .i64 x.1, .int .i64 x.2], undef, undef, undef, undef, undef], defers := [] })
      (groupT [blkT w.heap.size #[p.1] 23, spT p.1 pre, blkT p.2 #[.int .i64 x.1, .int .i64 x.2] 38]))
    HC.out (fun OS _ _ k hk => .inr ⟨HR.out k hk, fun h => h⟩) ?assign ?body ?done ?stop
  case assign =>
    rintro l' pre x O' W' K ⟨v, hI⟩ hK
    have C := (groupT_open hI).block #[.int .i64 x.1, .int .i64 x.2] 38
    have HT := Lib.hid (groupT_shut C)
    have HK := Lib.hid hK
    clear C hI hK
    dsimp only [encS]
    gi_wp2
    exact HK.out _ _ (Turns.ex (v, W'.heap.size) (Turns.and rfl HT.out))
  case body =>
    rintro l' pre x a' O' W' hpre ⟨⟨v, Bx⟩, rfl, hgrp⟩
    have C := groupT_open hgrp
    dsimp only at C ⊢
    have hq : pre.length + 1 ≤ 1000000 := by
      have := hpre.length_le
      simp at this
      omega
    obtain ⟨x1, x2⟩ := x
    obtain ⟨av, cv, rfl⟩ := C.slice 1 rfl
    have cs := (C.at 0 rfl (j := 0) rfl).1
    have cx := (C.at 2 rfl (j := 0) rfl).1
    have cx1 := (C.at 2 rfl (j := 1) rfl).1
    have HE := Lib.hid (C.below ((Below.refl _ W').alloc (Nat.le_refl _) (.cells #[.int .i64 x1, .int .i64 x2] 38)))
    clear C hgrp hpre
    gi_wp2_with (gi_at_builtin; refine wpListIn_append_crew HE.out 1 rfl rfl (.tmp 8) (.tmp 10) 23 rfl (.agg #[.int .i64 0, .int .i64 0]) 16 Tryz.underlying23 infoP rfl (by decide) rfl ⟨W'.heap.size, 0, none⟩ 1 1 [.int .i64 x1, .int .i64 x2] rfl rfl ?c1 ?c2 ?b1 ?b2 ?next)
    case c2 => exact ⟨rfl, rfl⟩
    case b1 => unfold maxLen; omega
    case b2 => omega
    case next =>
      intro v' w2 hF
      obtain ⟨av', cv', rfl⟩ := hF.slice 1 rfl
      have C2 : Crew O' W' [blkT w.heap.size #[.slice av pre.length cv] 23, spT (.slice av' (pre.length + 1) cv') (pre ++ [(x1, x2)])] w2 := by
        have := hF.pick [0, 1] (by decide) rfl
        show Crew O' W' [_, rowT 0 38 2 (.slice av' (pre.length + 1) cv') (pre ++ [(x1, x2)]).length (flatI (pre ++ [(x1, x2)]))] w2
        rw [flatI_append, List.length_append]
        exact this
      have cs' := (C2.at 0 rfl (j := 0) rfl).1
      have fs' := (C2.at 0 rfl (j := 0) rfl).2
      have HF2 := Lib.hid (groupT_shut (C2.set 0 rfl 0 (.slice av' (pre.length + 1) cv')))
      clear hF C2 HE
      gi_wp2
      exact Turns.ex (.slice av' (pre.length + 1) cv') HF2.out
  case done =>
    intro D W3 C
    obtain ⟨v, C⟩ := C.ex 1 rfl
    have C := C.spill 1 rfl
    obtain ⟨av, cv, rfl⟩ := C.slice 4 rfl
    have cs := (C.at 3 rfl (j := 0) rfl).1
    have hD := C.obj 2 rfl
    have HC4 := Lib.hid ((C.objPut 2 rfl (.deferred none)).pick [4] (by decide) rfl).fresh
    clear C
    gi_wp2
    refine ⟨by simp, .inl ⟨_, _, rfl, run_takeDeferred hD, ?_⟩⟩
    exact ⟨_, results_tmp rfl _ _ _, .slice av xs.length cv, rfl, HC4.out⟩
  case stop =>
    intro D c pre W3 _ C
    exact (C.with 1 rfl).1.elim

set_option maxHeartbeats 1000000 in
theorem collect_any (xs : List SpI) (hlen : xs.length ≤ 1000000) (g : Nat) (lb : Array Value) (R : Nat → Prop) (W0 : World) (hg : Gives Tryz.prog g lb encS xs R W0) (eg : ∀ args w, (callFunc g args).run Tryz.prog w = .ok (.enter g args) w)
    (w : World) (hs : W0.heap.size ≤ w.heap.size) (hR : ∀ k, R k → w.heap[k]? = W0.heap[k]?) :
    Calls Tryz.prog 44 #[.func (.func g) #[] lb] w fun e w' => ∃ v, e = .returned v ∧ Fresh (spT v xs) w w' := by
  have HM := Lib.hid (appendseq_any xs hlen g lb R W0 hg eg w hs hR)
  clear hg eg hs hR
  go_enter Tryz.func44, Tryz.ntmps44
  go_wp2_with (go_at_call 70; refine HM.out.mono ?_; rintro e w1 ⟨v, rfl, hF⟩)
  go_ret
  exact ⟨v, rfl, hF⟩

end Go.Proofs.YteellffkjjllgaaGreat
