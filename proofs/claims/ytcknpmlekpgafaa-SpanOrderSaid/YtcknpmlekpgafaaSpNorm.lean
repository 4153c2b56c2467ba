/-
  The reference of layer 5: what Norm, Rest, Total and Has answer. Conditions: as each theorem states them.
-/
import Derived.Test.YtcknpmlekpgafaaSpMarksB
namespace Go.Proofs.Ytcknpmlekpgafaa
open Go.RowKit Go.Rc5

/-- What Norm (or Rest, with other marks f) answers of a row of which each span is inside. -/
def RowAt (N : List Sp) (f : Nat → Bool) (n : Nat) (w : World) (e : Ending) (w' : World) : Prop :=
  (e = .returned (.tuple #[.slice none 0 0, .int .i64 5]) ∧ ¬ N.Pairwise Apart ∧ Below w.heap.size w w') ∨
  ∃ v, e = .returned (.tuple #[v, .int .i64 0]) ∧ N.Pairwise Apart ∧ Fresh (spT v (castS (rows f n))) w w'

theorem bl_fun (f : Nat → Bool) (n : Nat) : rows (fun x => (bl f n).getD x false) n = rows f n := rows_congr fun x hx => bl_get f n x hx

theorem Fresh.held {v : Value} {B : List Bool} {n : Nat} {w w' : World} (h : Fresh (blT v B n) w w') : ∃ a c, v = .slice a n c ∧ BoolsAt w' a B ∧ B.length = n := by
  obtain ⟨O, ⟨ho, _⟩, _⟩ := h
  obtain ⟨a, c, rfl⟩ := own_slice ho
  obtain ⟨h1, h2⟩ := bools_own ho
  exact ⟨a, c, rfl, h2, h1⟩

theorem Fresh.bel {t : Thing 0} {w w' : World} (h : Fresh t w w') : Below w.heap.size w w' := by
  obtain ⟨_, _, hb, _⟩ := h
  exact hb

/-- What is made behind what was made. -/
theorem Fresh.behind {t : Thing 0} {w w1 w' : World} (hb : Below w.heap.size w w1) (h : Fresh t w1 w') : Fresh t w w' := by
  obtain ⟨O, h1, h2, h3⟩ := h
  exact ⟨O, h1, hb.trans (h2.mono hb.size), fun k hk => Nat.le_trans hb.size (h3 k hk)⟩

set_option maxHeartbeats 2000000 in
theorem rnorm_bad (L : List SpI) (a : Option Addr) (c len : Nat) (size : Int) (w : World) (h : SpansAt w a L) (hl : L.length = len) (hlen : len ≤ 100000) (hb : Bad L size) :
    Calls Try.prog 11 #[.slice a len c, .int .i64 size] w fun e w' => e = .returned (.tuple #[.slice none 0 0, .int .i64 11]) ∧ Below w.heap.size w w' := by
  have HM := Lib.hid (rmarks_bad L a c len size w h hl hlen hb)
  clear h hb hl
  go_enter Try.func11, Try.ntmps11
  go_wp2_with fail
  refine HM.out.mono ?_
  rintro e w1 ⟨rfl, hb1⟩
  go_wp2
  go_ret2
  exact ⟨rfl, hb1⟩

set_option maxHeartbeats 2000000 in
theorem rnorm_good (L : List SpI) (N : List Sp) (n : Nat) (a : Option Addr) (c len : Nat) (w : World) (h : SpansAt w a L) (hl : L.length = len) (hlen : len ≤ 100000) (hg : Fits L N n) :
    Calls Try.prog 11 #[.slice a len c, .int .i64 n] w (RowAt N (memB N) n w) := by
  have HM := Lib.hid (rmarks_good L N n a c len w h hl hlen hg)
  have hn := hg.hi
  clear h hl hg
  go_enter Try.func11, Try.ntmps11
  go_wp2_with fail
  refine HM.out.mono ?_
  rintro e w1 (⟨rfl, hp, hb1⟩ | ⟨v, rfl, hp, hf⟩)
  · have HP := Lib.hid hp
    clear hp HM
    go_wp2
    go_ret2
    exact .inl ⟨rfl, HP.out, hb1⟩
  · have HP := Lib.hid hp
    have HF := Lib.hid hf
    obtain ⟨a1, c1, rfl, hbl, hbn⟩ := hf.held
    have HR := Lib.hid (rrow_any (bl (memB N) n) a1 c1 n w1 hbl hbn hn)
    clear hp hf hbl hbn HM
    go_wp2_with fail
    refine HR.out.mono ?_
    rintro e w2 ⟨v, rfl, hf2⟩
    rw [bl_fun] at hf2
    have HF2 := Lib.hid (hf2.behind HF.out.bel)
    clear hf2
    go_wp2
    go_ret2
    exact .inr ⟨v, rfl, HP.out, HF2.out⟩

set_option maxHeartbeats 2000000 in
theorem rrest_bad (L : List SpI) (a : Option Addr) (c len : Nat) (size : Int) (w : World) (h : SpansAt w a L) (hl : L.length = len) (hlen : len ≤ 100000) (hb : Bad L size) :
    Calls Try.prog 13 #[.slice a len c, .int .i64 size] w fun e w' => e = .returned (.tuple #[.slice none 0 0, .int .i64 11]) ∧ Below w.heap.size w w' := by
  have HM := Lib.hid (rmarks_bad L a c len size w h hl hlen hb)
  clear h hb hl
  go_enter Try.func13, Try.ntmps13
  go_wp2_with fail
  refine HM.out.mono ?_
  rintro e w1 ⟨rfl, hb1⟩
  go_wp2
  go_ret2
  exact ⟨rfl, hb1⟩

set_option maxHeartbeats 4000000 in
theorem rrest_good (L : List SpI) (N : List Sp) (n : Nat) (a : Option Addr) (c len : Nat) (w : World) (h : SpansAt w a L) (hl : L.length = len) (hlen : len ≤ 100000) (hg : Fits L N n) :
    Calls Try.prog 13 #[.slice a len c, .int .i64 n] w (RowAt N (fun x => !memB N x) n w) := by
  have HM := Lib.hid (rmarks_good L N n a c len w h hl hlen hg)
  have hn := hg.hi
  have hn1 := hg.lo
  clear h hl hg
  go_enter Try.func13, Try.ntmps13
  go_wp2_with fail
  refine HM.out.mono ?_
  rintro e w1 (⟨rfl, hp, hb1⟩ | ⟨v, rfl, hp, hf⟩)
  · have HP := Lib.hid hp
    clear hp HM
    go_wp2
    go_ret2
    exact .inl ⟨rfl, HP.out, hb1⟩
  · have HP := Lib.hid hp
    have hC := (Crew.start w).more hf
    obtain ⟨g, c1, rfl⟩ := hC.held 0 rfl hn1
    have HC := Lib.hid hC
    clear hp hf HM hC
    go_wp2
    go_loopw [8] (fun i wr => ∃ k : Nat, i = .int .i64 k ∧ k ≤ n ∧ Crew (fun _ => False) w [blT (.slice (some ⟨g, 0, none⟩) n c1) (bl (fun x => if x < k then !memB N x else memB N x) n) n] wr) (fun i _ => (n - intOf i).toNat)
    case atStart =>
      refine ⟨0, rfl, Nat.zero_le _, ?_⟩
      have e : bl (fun x => if x < 0 then !memB N x else memB N x) n = bl (memB N) n := bl_congr fun x _ => by simp
      rw [e]
      exact HC.out
    case round =>
      obtain ⟨k, rfl, hk, hF⟩ := hrel
      have HF := Lib.hid hF
      by_cases hlt : k < n
      · have hltI : (k : Int) < n := by omega
        obtain ⟨d0, d1⟩ := hF.cell 0 rfl (bools_get _ k (by rw [bl_length]; exact hlt))
        rw [bl_get _ _ _ hlt, if_neg (Nat.lt_irrefl _)] at d0
        have hset := hF.put 0 rfl k (.bool (!memB N k))
        rw [bools_set, bl_set] at hset
        have e : bl (fun z => if z = k then !memB N k else if z < k then !memB N z else memB N z) n = bl (fun x => if x < k + 1 then !memB N x else memB N x) n := bl_congr fun z _ => by
          by_cases ez : z = k
          · subst ez
            simp
          · by_cases hz : z < k
            · have : z < k + 1 := by omega
              simp [ez, hz, this]
            · have : ¬ z < k + 1 := by omega
              simp [ez, hz, this]
        rw [e] at hset
        have HS := Lib.hid hset
        clear hset e hF
        generalize memB N k = mk at *
        go_wp2
        exact ⟨⟨k + 1, by go_num, by omega, HS.out⟩, by simp [intOf]; omega⟩
      · have hltI : ¬ (k : Int) < n := by omega
        obtain rfl : k = n := by omega
        have e : bl (fun x => if x < k then !memB N x else memB N x) k = bl (fun x => !memB N x) k := bl_congr fun x hx => by simp [hx]
        rw [e] at hF
        obtain ⟨h1, h2⟩ := bools_own (hF.own 0 rfl)
        have HR := Lib.hid (rrow_any _ _ c1 k wr h2 h1 hn)
        clear e hF h1 h2
        go_wp2_with fail
        refine HR.out.mono ?_
        rintro e w2 ⟨v, rfl, hf2⟩
        rw [bl_fun] at hf2
        have HF2 := Lib.hid (hf2.behind HF.out.bel)
        clear hf2
        go_wp2
        go_ret2
        exact .inr ⟨v, rfl, HP.out, HF2.out⟩

end Go.Proofs.Ytcknpmlekpgafaa
