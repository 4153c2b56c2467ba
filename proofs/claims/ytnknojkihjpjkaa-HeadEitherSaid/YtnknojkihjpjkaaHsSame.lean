/-
  Whether two rows of spans are the same, as the statements ask it; and the reference's Right, Total, Has. Conditions: as each theorem states them.
-/
import Derived.Test.YtnknojkihjpjkaaHsNorm
namespace Go.Rc5

theorem list_same {A B : List SpI} (hl : A.length = B.length) (h : ∀ j, j < A.length → A.getD j (0, 0) = B.getD j (0, 0)) : A = B := by
  apply List.ext_getElem hl
  intro j h1 h2
  have := h j h1
  simpa [List.getD_eq_getElem?_getD, h1, h2] using this

/-- Has a row a sector, as it is asked of any number. -/
def hasI (N : List Sp) (x : Int) : Bool := N.any fun s => decide ((s.1 : Int) ≤ x) && decide (x - s.1 < s.2)

theorem hasI_nat (N : List Sp) (x : Nat) : hasI N x = memB N x := by
  unfold hasI memB
  congr 1
  funext s
  rw [Bool.eq_iff_iff, inB_iff]
  simp
  omega

theorem hasI_neg (N : List Sp) {x : Int} (h : x < 0) : hasI N x = false := by
  unfold hasI
  rw [List.any_eq_false]
  intro s _
  simp
  omega

theorem any_take (N : List Sp) (f : Sp → Bool) (k : Nat) (h : k < N.length) : (N.take (k + 1)).any f = ((N.take k).any f || f (N.getD k (0, 0))) := by
  rw [take_snoc N k (0, 0) h]
  simp

theorem total_take (N : List Sp) (k : Nat) (h : k < N.length) : total (N.take (k + 1)) = total (N.take k) + (N.getD k (0, 0)).2 := by
  rw [take_snoc N k (0, 0) h, total_append, total_cons, total_nil, Nat.add_zero]

theorem total_bound (N : List Sp) (h : ∀ s ∈ N, s.2 ≤ 8192) : total N ≤ N.length * 8192 := by
  induction N with
  | nil => exact Nat.zero_le _
  | cons s r ih =>
    have h1 := h s List.mem_cons_self
    have h2 := ih (fun t ht => h t (List.mem_cons_of_mem _ ht))
    rw [total_cons, List.length_cons]
    omega

end Go.Rc5
namespace Go.Proofs.Ytnknojkihjpjkaa
open Go.RowKit Go.Rc5

set_option maxHeartbeats 2000000 in
theorem same_any (A B : List SpI) (a b : Option Addr) (ca cb na nb : Nat) (w : World) (hA : SpansAt w a A) (hB : SpansAt w b B) (ha : A.length = na) (hb : B.length = nb) (hl : na ≤ 1000000) :
    Calls Try.prog 42 #[.slice a na ca, .slice b nb cb] w fun e w' => e = .returned (.bool (decide (A = B))) ∧ Below w.heap.size w w' := by
  have HA := Lib.hid (fun W (hb : Below w.heap.size w W) => SpansAt.below hA hb)
  have HB := Lib.hid (fun W (hb : Below w.heap.size w W) => SpansAt.below hB hb)
  have HLA := Lib.hid ha
  have HLB := Lib.hid hb
  clear hA hB ha hb
  by_cases he : na = nb
  · subst he
    go_enter Try.func42, Try.ntmps42
    go_wp2
    go_loopw [5] (fun i wr => ∃ k : Nat, i = .int .i64 k ∧ k ≤ na ∧ (∀ j, j < k → A.getD j (0, 0) = B.getD j (0, 0)) ∧ Below w.heap.size w wr) (fun i _ => (na - intOf i).toNat)
    case atStart => exact ⟨0, rfl, Nat.zero_le _, fun j hj => absurd hj (Nat.not_lt_zero _), Below.refl _ _⟩
    case round =>
      obtain ⟨k, rfl, hk, hall, hBw⟩ := hrel
      have HAL := Lib.hid hall
      clear hall
      by_cases hlt : k < na
      · have hltI : (k : Int) < na := by omega
        obtain ⟨x, rfl, c0, c1⟩ := HA.out wr hBw k (by rw [HLA.out]; exact hlt)
        obtain ⟨y, rfl, d0, d1⟩ := HB.out wr hBw k (by rw [HLB.out]; exact hlt)
        by_cases hs : A.getD k (0, 0) = B.getD k (0, 0)
        · have HS := Lib.hid hs
          rw [← hs] at d0 d1
          clear hs
          generalize A.getD k (0, 0) = s at c0 c1 d0 d1
          obtain ⟨s1, s2⟩ := s
          dsimp only at c0 c1 d0 d1
          go_wp2_with fail
          go_quiet (fail)
          have HBQ := Lib.hid (below_drewN hBw nq)
          clear c0 c1 d0 d1
          generalize wr.drewN nq = wq at *
          go_wp2
          refine ⟨⟨k + 1, by go_num, by omega, fun j hj => ?_, HBQ.out⟩, by simp [intOf]; omega⟩
          by_cases e : j = k
          · subst e
            exact HS.out
          · exact HAL.out j (by omega)
        · have HS := Lib.hid hs
          clear hs
          generalize hs : A.getD k (0, 0) = s at *
          generalize ht : B.getD k (0, 0) = t at *
          have HNE : Hid (¬ A = B) := fun e => HS.out (by rw [← hs, ← ht, e])
          obtain ⟨s1, s2⟩ := s
          obtain ⟨t1, t2⟩ := t
          dsimp only at c0 c1 d0 d1
          clear hs ht
          by_cases h1 : s1 = t1
          · subst h1
            have h2 : (s2 == t2) = false := by
              rw [beq_eq_false_iff_ne]
              intro e
              exact HS.out (by rw [e])
            clear HS
            go_wp2_with fail
            go_quiet (fail)
            have HBQ := Lib.hid (below_drewN hBw nq)
            clear c0 c1 d0 d1
            generalize wr.drewN nq = wq at *
            go_wp2
            go_ret
            exact ⟨by rw [decide_eq_false HNE.out]; rfl, HBQ.out⟩
          · have h1B : (s1 == t1) = false := by simpa using h1
            clear h1 HS
            go_wp2_with fail
            go_quiet (fail)
            have HBQ := Lib.hid (below_drewN hBw nq)
            clear c0 c1 d0 d1
            generalize wr.drewN nq = wq at *
            go_wp2
            go_ret
            exact ⟨by rw [decide_eq_false HNE.out]; rfl, HBQ.out⟩
      · have hltI : ¬ (k : Int) < na := by omega
        obtain rfl : k = na := by omega
        go_wp2
        go_ret
        have e : A = B := list_same (HLA.out.trans HLB.out.symm) (fun j hj => HAL.out j (by have := HLA.out; omega))
        exact ⟨by rw [decide_eq_true e]; rfl, hBw⟩
  · have heI : ((na : Int) != nb) = true := by simp; omega
    have e : ¬ A = B := fun e => he (by rw [← HLA.out, ← HLB.out, e])
    rw [decide_eq_false e]
    clear e he
    go_enter Try.func42, Try.ntmps42
    go_wp2
    go_ret
    exact ⟨rfl, Below.refl _ _⟩

set_option maxHeartbeats 2000000 in
theorem rtotal_any (N : List Sp) (a : Option Addr) (c len : Nat) (w : World) (h : SpansAt w a (castS N)) (hl : N.length = len) (hlen : len ≤ 100000) (hm : ∀ s ∈ N, s.2 ≤ 8192) :
    Calls Try.prog 34 #[.slice a len c] w fun e w' => e = .returned (.int .i64 (total N)) ∧ w = w' := by
  have HS := Lib.hid h
  have HL := Lib.hid hl
  have HM := Lib.hid hm
  clear h hl hm
  go_enter Try.func34, Try.ntmps34
  go_wp2
  go_loopw [3, 4] (fun v i wr => ∃ k : Nat, i = .int .i64 k ∧ v = .int .i64 (total (N.take k)) ∧ k ≤ len ∧ w = wr) (fun _ i _ => (len - intOf i).toNat)
  case atStart => exact ⟨0, rfl, rfl, Nat.zero_le _, rfl⟩
  case round =>
    obtain ⟨k, rfl, rfl, hk, rfl⟩ := hrel
    by_cases hlt : k < len
    · have hltI : (k : Int) < len := by omega
      obtain ⟨x, rfl, c0, c1⟩ := HS.out k (by rw [castS_length, HL.out]; exact hlt)
      rw [castS_getD] at c1
      have hb := total_bound (N.take k) (fun s hs => HM.out s (List.mem_of_mem_take hs))
      have hlt2 : (N.take k).length ≤ 100000 := by simp; omega
      have HT := Lib.hid (total_take N k (by rw [HL.out]; exact hlt))
      have hs2 : (N.getD k (0, 0)).2 ≤ 8192 := HM.out _ (by rw [List.getD_eq_getElem?_getD, List.getElem?_eq_getElem (by rw [HL.out]; exact hlt)]; exact List.getElem_mem _)
      have htb : total (N.take k) ≤ 1000000000 := by omega
      clear c0 hb hlt2
      generalize (N.getD k (0, 0)).2 = m at *
      generalize total (N.take k) = T at *
      have hmx : max (m : Int) 0 = m := by omega
      go_wp2
      refine ⟨⟨k + 1, by go_num, ?_, by omega, trivial⟩, by simp [intOf]; omega⟩
      rw [HT.out]
      simp
    · have hltI : ¬ (k : Int) < len := by omega
      have e : N.take k = N := List.take_of_length_le (by have := HL.out; omega)
      rw [e]
      go_wp2
      go_ret
      exact ⟨rfl, rfl⟩

set_option maxHeartbeats 4000000 in
theorem rhas_any (N : List Sp) (a : Option Addr) (c len : Nat) (at_ : Int) (hat : at_ ≤ 9223372036854775807) (w : World) (h : SpansAt w a (castS N)) (hl : N.length = len) (hlen : len ≤ 100000) :
    Calls Try.prog 33 #[.slice a len c, .int .i64 at_] w fun e w' => e = .returned (.bool (hasI N at_)) ∧ Below w.heap.size w w' := by
  have HS := Lib.hid (fun W (hb : Below w.heap.size w W) => SpansAt.below h hb)
  have HL := Lib.hid hl
  clear h hl
  go_enter Try.func33, Try.ntmps33
  go_wp2
  go_loopw [5] (fun i wr => ∃ k : Nat, i = .int .i64 k ∧ k ≤ len ∧ hasI (N.take k) at_ = false ∧ Below w.heap.size w wr) (fun i _ => (len - intOf i).toNat)
  case atStart => exact ⟨0, rfl, Nat.zero_le _, rfl, Below.refl _ _⟩
  case round =>
    obtain ⟨k, rfl, hk, hno, hB⟩ := hrel
    have HNO := Lib.hid hno
    clear hno
    by_cases hlt : k < len
    · have hltI : (k : Int) < len := by omega
      obtain ⟨x, rfl, c0, c1⟩ := HS.out wr hB k (by rw [castS_length, HL.out]; exact hlt)
      rw [castS_getD] at c0 c1
      have HT : Hid (hasI (N.take (k + 1)) at_ = (hasI (N.take k) at_ || (decide (((N.getD k (0, 0)).1 : Int) ≤ at_) && decide (at_ - (N.getD k (0, 0)).1 < (N.getD k (0, 0)).2)))) := any_take N _ k (by rw [HL.out]; exact hlt)
      have HSUB : Hid (hasI (N.take (k + 1)) at_ = true → hasI N at_ = true) := fun e => by
        unfold hasI at e ⊢
        rw [List.any_eq_true] at e ⊢
        obtain ⟨s, hs, h⟩ := e
        exact ⟨s, List.mem_of_mem_take hs, h⟩
      generalize N.getD k (0, 0) = s at *
      obtain ⟨s1, s2⟩ := s
      dsimp only at c0 c1 HT
      by_cases b1 : (s1 : Int) ≤ at_
      · by_cases b2 : at_ - s1 < s2
        · have HY : Hid (hasI N at_ = true) := HSUB.out (by rw [HT.out]; simp [b1, b2])
          go_wp2_with fail
          go_quiet (fail)
          have HBQ := Lib.hid (below_drewN hB nq)
          clear c0 c1
          generalize wr.drewN nq = wq at *
          go_wp2
          go_ret
          exact ⟨by rw [HY.out]; rfl, HBQ.out⟩
        · have HN : Hid (hasI (N.take (k + 1)) at_ = false) := by
            rw [HT.out, HNO.out]
            show (false || (decide ((s1 : Int) ≤ at_) && decide (at_ - s1 < s2))) = false
            rw [decide_eq_false b2]
            simp
          have b2B : decide (at_ - s1 < s2) = false := decide_eq_false b2
          go_wp2_with fail
          go_quiet (fail)
          have HBQ := Lib.hid (below_drewN hB nq)
          clear c0 c1
          generalize wr.drewN nq = wq at *
          go_wp2
          exact ⟨⟨k + 1, by go_num, by omega, HN.out, HBQ.out⟩, by simp [intOf]; omega⟩
      · have HN : Hid (hasI (N.take (k + 1)) at_ = false) := by
          rw [HT.out, HNO.out]
          show (false || (decide ((s1 : Int) ≤ at_) && decide (at_ - s1 < s2))) = false
          rw [decide_eq_false b1]
          simp
        have b1B : decide ((s1 : Int) ≤ at_) = false := decide_eq_false b1
        go_wp2_with fail
        go_quiet (fail)
        have HBQ := Lib.hid (below_drewN hB nq)
        clear c0 c1
        generalize wr.drewN nq = wq at *
        go_wp2
        exact ⟨⟨k + 1, by go_num, by omega, HN.out, HBQ.out⟩, by simp [intOf]; omega⟩
    · have hltI : ¬ (k : Int) < len := by omega
      have e : N.take k = N := List.take_of_length_le (by have := HL.out; omega)
      rw [e] at HNO
      clear e
      go_wp2
      go_ret
      exact ⟨by rw [HNO.out]; rfl, hB⟩

end Go.Proofs.Ytnknojkihjpjkaa
