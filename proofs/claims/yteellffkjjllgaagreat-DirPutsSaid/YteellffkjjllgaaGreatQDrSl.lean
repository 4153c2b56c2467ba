/-
  What the library's own functions answer of rows of texts and of words: the place of a text, by its order or one by one; whether a row rises; a row as one text. Conditions: as each theorem states them.
-/
import Derived.Test.YteellffkjjllgaaGreatQDrToldB
namespace Go.Rc7
open Go.Rc5

theorem getD_mem {α : Type} {l : List α} {k : Nat} {d : α} (h : k < l.length) : l.getD k d ∈ l := by
  rw [List.getD_eq_getElem?_getD, List.getElem?_eq_getElem h]
  exact List.getElem_mem h

theorem mem_getD {α : Type} {l : List α} {x : α} (d : α) (h : x ∈ l) : ∃ k, k < l.length ∧ l.getD k d = x := by
  obtain ⟨k, hk, rfl⟩ := List.mem_iff_getElem.1 h
  exact ⟨k, hk, by simp [List.getD_eq_getElem?_getD, hk]⟩

/-- Where a text is in a row, or that it is nowhere. -/
def PlaceOf (S : List ByteArray) (v : ByteArray) (n : Nat) (r : Int) : Prop := (∃ k : Nat, r = k ∧ k < n ∧ S.getD k .empty = v ∧ ∀ j, j < k → S.getD j .empty ≠ v) ∨ (r = -1 ∧ ∀ j, j < n → S.getD j .empty ≠ v)

/-- Where a word is no, or that all are yes. -/
def NoIn (B : List Bool) (r : Int) : Prop := (0 ≤ r ∧ false ∈ B) ∨ (r = -1 ∧ ∀ b ∈ B, b = true)

theorem add_succ (x : Addr) (q : Nat) : x.add (q + 1) = ⟨x.block, x.off + (q + 1), none⟩ := by
  unfold Addr.add
  rfl

theorem rises_at {S : List ByteArray} (h : Rises S) {i j : Nat} (hij : i < j) (hj : j < S.length) : lt (S.getD i .empty) (S.getD j .empty) = true := by
  have := List.pairwise_iff_getElem.1 h i j (by omega) hj hij
  simpa [List.getD_eq_getElem?_getD, show i < S.length by omega, hj] using this

end Go.Rc7
namespace Go.Proofs.YteellffkjjllgaaGreat
open Go.RowKit Go.Rc5 Go.Rc6 Go.Rc7

set_option maxRecDepth 100000 in
set_option maxHeartbeats 2000000 in
theorem IndexB_any (B : List Bool) (a : Option Addr) (n c : Nat) (w : World) (h : BoolsAt w a B) (hl : B.length = n) (hn : n ≤ 1000000) :
    Calls Tryz.prog 53 #[.slice a n c, .bool false] w fun e w' => (∃ r : Int, e = .returned (.int .i64 r) ∧ NoIn B r) ∧ w' = w := by
  have HS := Lib.hid h
  have HL := Lib.hid hl
  clear h hl
  go_enter Tryz.func53, Tryz.ntmps53
  go_wp2
  go_loop [5, 8] (fun _ i => ∃ k : Nat, k ≤ n ∧ i = .int .i64 k ∧ Hid (∀ j, j < k → B.getD j false = true)) (fun _ i => (n - intOf i).toNat)
  case atStart => exact ⟨0, Nat.zero_le _, rfl, fun j hj => absurd hj (Nat.not_lt_zero _)⟩
  case round =>
    obtain ⟨k, hk, rfl, hne⟩ := hrel
    by_cases hlt : k < n
    · have hltI : (k : Int) < n := by omega
      obtain ⟨x, rfl, c0⟩ := HS.out k (by rw [HL.out]; exact hlt)
      have hmem : B.getD k false ∈ B := getD_mem (by rw [HL.out]; exact hlt)
      have HMM := Lib.hid hmem
      clear hmem
      cases hb : B.getD k false with
      | false =>
        rw [hb] at c0 HMM
        have HB := Lib.hid hb
        clear hb
        go_wp2
        go_ret
        exact ⟨⟨_, rfl, .inl ⟨by omega, HMM.out⟩⟩, rfl⟩
      | true =>
        rw [hb] at c0
        have hne2 : Hid (∀ j, j < k + 1 → B.getD j false = true) := fun j hj => by
          by_cases e : j = k
          · subst e
            exact hb
          · exact hne.out j (by omega)
        clear hb
        go_wp2
        exact ⟨⟨k + 1, by omega, by go_num, hne2⟩, by simp [intOf]; omega⟩
    · obtain rfl : k = n := by omega
      have hltI : ¬ (k : Int) < k := by omega
      go_wp2
      go_ret
      refine ⟨⟨_, rfl, .inr ⟨rfl, fun b hb => ?_⟩⟩, rfl⟩
      obtain ⟨j, hj, rfl⟩ := mem_getD false hb
      exact hne.out j (by rw [← HL.out]; exact hj)

open Classical in
set_option maxRecDepth 100000 in
set_option maxHeartbeats 2000000 in
theorem Contains_any (B : List Bool) (a : Option Addr) (n c : Nat) (w : World) (h : BoolsAt w a B) (hl : B.length = n) (hn : n ≤ 1000000) :
    Calls Tryz.prog 35 #[.slice a n c, .bool false] w fun e w' => e = .returned (.bool (decide (false ∈ B))) ∧ w' = w := by
  have HI := Lib.hid (IndexB_any B a n c w h hl hn)
  clear h hl
  go_enter Tryz.func35, Tryz.ntmps35
  go_wp2_with fail
  refine HI.out.mono ?_
  rintro e w1 ⟨⟨r, rfl, hr⟩, rfl⟩
  rcases hr with ⟨h0, hm⟩ | ⟨rfl, hm⟩
  · have HM := Lib.hid hm
    have h0' : decide (0 ≤ r) = true := decide_eq_true h0
    clear hm
    go_wp2
    go_ret
    rw [decide_eq_true HM.out]
    exact ⟨by simp, rfl⟩
  · have HM := Lib.hid hm
    clear hm
    go_wp2
    go_ret
    rw [decide_eq_false (fun h => by cases HM.out _ h)]
    exact ⟨rfl, rfl⟩

open Classical in
set_option maxRecDepth 100000 in
set_option maxHeartbeats 2000000 in
theorem rising_any (S : List ByteArray) (a : Option Addr) (n c : Nat) (w : World) (h : StrsAt w a S) (hl : S.length = n) (hn : n ≤ 1000000) :
    Calls Tryz.prog 33 #[.slice a n c] w fun e w' => e = .returned (.bool (decide (Rises S))) ∧ Below w.heap.size w w' := by
  have HS := Lib.hid (fun W (hW : Below w.heap.size w W) => StrsAt.below h hW)
  have HL := Lib.hid hl
  clear h hl
  go_enter Tryz.func33, Tryz.ntmps33
  go_wp2
  go_loopw [3] (fun i wr => ∃ k : Nat, 1 ≤ k ∧ (k ≤ n ∨ k = 1) ∧ i = .int .i64 k ∧ Hid (Rises (S.take k)) ∧ Below w.heap.size w wr) (fun i _ => (n - intOf i).toNat)
  case atStart => exact ⟨1, Nat.le_refl _, .inr rfl, rfl, rises_one (Nat.le_refl _), Below.refl _ _⟩
  case round =>
    obtain ⟨k, h1, hk, rfl, hR, hB⟩ := hrel
    have HB := Lib.hid hB
    clear hB
    by_cases hlt : k < n
    · have hltI : (k : Int) < n := by omega
      obtain ⟨x, rfl, c0⟩ := HS.out wr HB.out k (by rw [HL.out]; exact hlt)
      obtain ⟨x2, hx, c1⟩ := HS.out wr HB.out (k - 1) (by rw [HL.out]; omega)
      cases hx
      obtain ⟨q, rfl⟩ : ∃ q, k = q + 1 := ⟨k - 1, by omega⟩
      have HRN := Lib.hid (fun h => rises_not (l := S) (k := q + 1) (by rw [HL.out]; exact hlt) (by omega) h)
      have HRT := Lib.hid (fun h => rises_take (l := S) (k := q + 1) (by rw [HL.out]; exact hlt) (by omega) hR.out h)
      simp only [Nat.add_sub_cancel] at c1 HRN HRT
      generalize S.getD (q + 1) .empty = y at *
      generalize S.getD q .empty = y' at *
      rw [add_succ] at c0
      replace c0 : wr.drew.cell? ⟨x.block, x.off + (q + 1), none⟩ = some (.string y) := c0
      replace c1 : wr.drew.cell? (x.add q) = some (.string y') := c1
      have e1 : (0 : Int) ≤ (q : Int) + 1 := by omega
      have HBD := Lib.hid (Below.refl wr.heap.size wr).drew
      have hle : ∀ W, (binOp .leq 9 (.string y) (.string y')).run Tryz.prog W = .ok (.bool (!lt y' y)) W := fun W => by
        rw [← leq_iff y' y]
        simp [binOp, Op.stringOp]
      cases hb : lt y' y with
      | true =>
        rw [hb] at hle
        have HG := Lib.hid (HRT.out hb)
        clear hb HRN HRT
        go_wp2
        go_region
        all_goals
          go_wp2
          exact ⟨⟨q + 1 + 1, by omega, .inl (by omega), by go_num, HG.out, below_trans HB.out HBD.out⟩, by simp [intOf]; omega⟩
      | false =>
        rw [hb] at hle
        have HG := Lib.hid (HRN.out hb)
        clear hb HRN HRT
        go_wp2
        go_region
        all_goals
          go_wp2
          go_ret
          exact ⟨by rw [decide_eq_false HG.out]; rfl, below_trans HB.out HBD.out⟩
    · have hltI : ¬ (k : Int) < n := by omega
      go_wp2
      go_ret
      refine ⟨?_, HB.out⟩
      have h2 := hR.out
      rw [List.take_of_length_le (by rw [HL.out]; omega)] at h2
      rw [decide_eq_true h2]
      rfl

end Go.Proofs.YteellffkjjllgaaGreat
