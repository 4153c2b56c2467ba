/-
  Whether two rows of spans are the same, as the statements ask it; and the reference's Right, Total, Has. Conditions: as each theorem states them.
  The reference of layer 5: what Right and Take answer. Conditions: as each theorem states them.
  What the program's Total and Has answer. Conditions: as each theorem states them.
  What the program's sized, within and Right answer. Conditions: as each theorem states them.
  Directories as mathematics: files, their bytes, which rows of files are directories, and what is told of them. No program is named here. Conditions: none.
  Rows of files, of texts and of rows of spans in memory: what their cells hold; files that a call has made, with their spans. Conditions: none.
-/
import Derived.Test.YteellffkjjllgaaGreatG1
import Derived.Test.YteellffkjjllgaaGreatG2
import Derived.Test.YteellffkjjllgaaGreatG3
import Derived.Test.YteellffkjjllgaaGreatG4
import Derived.Sort.Walk0
namespace Go.Rc5

theorem list_same {A B : List SpI} (hl : A.length = B.length) (h : ∀ j, j < A.length → A.getD j (0, 0) = B.getD j (0, 0)) : A = B := by
  apply List.ext_getElem hl
  intro j h1 h2
  have := h j h1
  simpa [List.getD_eq_getElem?_getD, h1, h2] using this

/-- Has a row a sector, as it is asked of any number. -/
def hasI (N : List Sp) (x : Int) : Bool := N.any fun s => decide ((s.1 : Int) ≤ x) && decide (x - s.1 < s.2)

theorem hasI_nat (N : List Sp) (x : Nat) : hasI N x = memB N x := by
  unfold hasI memB
  congr 1
  funext s
  rw [Bool.eq_iff_iff, inB_iff]
  simp
  omega

theorem hasI_neg (N : List Sp) {x : Int} (h : x < 0) : hasI N x = false := by
  unfold hasI
  rw [List.any_eq_false]
  intro s _
  simp
  omega

theorem any_take (N : List Sp) (f : Sp → Bool) (k : Nat) (h : k < N.length) : (N.take (k + 1)).any f = ((N.take k).any f || f (N.getD k (0, 0))) := by
  rw [take_snoc N k (0, 0) h]
  simp

theorem total_take (N : List Sp) (k : Nat) (h : k < N.length) : total (N.take (k + 1)) = total (N.take k) + (N.getD k (0, 0)).2 := by
  rw [take_snoc N k (0, 0) h, total_append, total_cons, total_nil, Nat.add_zero]

theorem total_bound (N : List Sp) (h : ∀ s ∈ N, s.2 ≤ 8192) : total N ≤ N.length * 8192 := by
  induction N with
  | nil => exact Nat.zero_le _
  | cons s r ih =>
    have h1 := h s List.mem_cons_self
    have h2 := ih (fun t ht => h t (List.mem_cons_of_mem _ ht))
    rw [total_cons, List.length_cons]
    omega

end Go.Rc5
namespace Go.Proofs.YteellffkjjllgaaGreat
open Go.RowKit Go.Rc5

set_option maxHeartbeats 2000000 in
theorem same_any (A B : List SpI) (a b : Option Addr) (ca cb na nb : Nat) (w : World) (hA : SpansAt w a A) (hB : SpansAt w b B) (ha : A.length = na) (hb : B.length = nb) (hl : na ≤ 1000000) :
    Calls Tryz.prog 11 #[.slice a na ca, .slice b nb cb] w fun e w' => e = .returned (.bool (decide (A = B))) ∧ Below w.heap.size w w' := by
  have HA := Lib.hid (fun W (hb : Below w.heap.size w W) => SpansAt.below hA hb)
  have HB := Lib.hid (fun W (hb : Below w.heap.size w W) => SpansAt.below hB hb)
  have HLA := Lib.hid ha
  have HLB := Lib.hid hb
  clear hA hB ha hb
  by_cases he : na = nb
  · subst he
    go_enter Tryz.func11, Tryz.ntmps11
    go_wp2
    go_loopw [5] (fun i wr => ∃ k : Nat, i = .int .i64 k ∧ k ≤ na ∧ (∀ j, j < k → A.getD j (0, 0) = B.getD j (0, 0)) ∧ Below w.heap.size w wr) (fun i _ => (na - intOf i).toNat)
    case atStart => exact ⟨0, rfl, Nat.zero_le _, fun j hj => absurd hj (Nat.not_lt_zero _), Below.refl _ _⟩
    case round =>
      obtain ⟨k, rfl, hk, hall, hBw⟩ := hrel
      have HAL := Lib.hid hall
      clear hall
      by_cases hlt : k < na
      · have hltI : (k : Int) < na := by omega
        obtain ⟨x, rfl, c0, c1⟩ := HA.out wr hBw k (by rw [HLA.out]; exact hlt)
        obtain ⟨y, rfl, d0, d1⟩ := HB.out wr hBw k (by rw [HLB.out]; exact hlt)
        by_cases hs : A.getD k (0, 0) = B.getD k (0, 0)
        · have HS := Lib.hid hs
          rw [← hs] at d0 d1
          clear hs
          generalize A.getD k (0, 0) = s at c0 c1 d0 d1
          obtain ⟨s1, s2⟩ := s
          dsimp only at c0 c1 d0 d1
          go_wp2_with fail
          go_quiet (fail)
          have HBQ := Lib.hid (below_drewN hBw nq)
          clear c0 c1 d0 d1
          generalize wr.drewN nq = wq at *
          go_wp2
          refine ⟨⟨k + 1, by go_num, by omega, fun j hj => ?_, HBQ.out⟩, by simp [intOf]; omega⟩
          by_cases e : j = k
          · subst e
            exact HS.out
          · exact HAL.out j (by omega)
        · have HS := Lib.hid hs
          clear hs
          generalize hs : A.getD k (0, 0) = s at *
          generalize ht : B.getD k (0, 0) = t at *
          have HNE : Hid (¬ A = B) := fun e => HS.out (by rw [← hs, ← ht, e])
          obtain ⟨s1, s2⟩ := s
          obtain ⟨t1, t2⟩ := t
          dsimp only at c0 c1 d0 d1
          clear hs ht
          by_cases h1 : s1 = t1
          · subst h1
            have h2 : (s2 == t2) = false := by
              rw [beq_eq_false_iff_ne]
              intro e
              exact HS.out (by rw [e])
            clear HS
            go_wp2_with fail
            go_quiet (fail)
            have HBQ := Lib.hid (below_drewN hBw nq)
            clear c0 c1 d0 d1
            generalize wr.drewN nq = wq at *
            go_wp2
            go_ret
            exact ⟨by rw [decide_eq_false HNE.out]; rfl, HBQ.out⟩
          · have h1B : (s1 == t1) = false := by simpa using h1
            clear h1 HS
            go_wp2_with fail
            go_quiet (fail)
            have HBQ := Lib.hid (below_drewN hBw nq)
            clear c0 c1 d0 d1
            generalize wr.drewN nq = wq at *
            go_wp2
            go_ret
            exact ⟨by rw [decide_eq_false HNE.out]; rfl, HBQ.out⟩
      · have hltI : ¬ (k : Int) < na := by omega
        obtain rfl : k = na := by omega
        go_wp2
        go_ret
        have e : A = B := list_same (HLA.out.trans HLB.out.symm) (fun j hj => HAL.out j (by have := HLA.out; omega))
        exact ⟨by rw [decide_eq_true e]; rfl, hBw⟩
  · have heI : ((na : Int) != nb) = true := by simp; omega
    have e : ¬ A = B := fun e => he (by rw [← HLA.out, ← HLB.out, e])
    rw [decide_eq_false e]
    clear e he
    go_enter Tryz.func11, Tryz.ntmps11
    go_wp2
    go_ret
    exact ⟨rfl, Below.refl _ _⟩

set_option maxHeartbeats 2000000 in
theorem rtotal_any (N : List Sp) (a : Option Addr) (c len : Nat) (w : World) (h : SpansAt w a (castS N)) (hl : N.length = len) (hlen : len ≤ 100000) (hm : ∀ s ∈ N, s.2 ≤ 8192) :
    Calls Tryz.prog 62 #[.slice a len c] w fun e w' => e = .returned (.int .i64 (total N)) ∧ w = w' := by
  have HS := Lib.hid h
  have HL := Lib.hid hl
  have HM := Lib.hid hm
  clear h hl hm
  go_enter Tryz.func62, Tryz.ntmps62
  go_wp2
  go_loopw [3, 4] (fun v i wr => ∃ k : Nat, i = .int .i64 k ∧ v = .int .i64 (total (N.take k)) ∧ k ≤ len ∧ w = wr) (fun _ i _ => (len - intOf i).toNat)
  case atStart => exact ⟨0, rfl, rfl, Nat.zero_le _, rfl⟩
  case round =>
    obtain ⟨k, rfl, rfl, hk, rfl⟩ := hrel
    by_cases hlt : k < len
    · have hltI : (k : Int) < len := by omega
      obtain ⟨x, rfl, c0, c1⟩ := HS.out k (by rw [castS_length, HL.out]; exact hlt)
      rw [castS_getD] at c1
      have hb := total_bound (N.take k) (fun s hs => HM.out s (List.mem_of_mem_take hs))
      have hlt2 : (N.take k).length ≤ 100000 := by simp; omega
      have HT := Lib.hid (total_take N k (by rw [HL.out]; exact hlt))
      have hs2 : (N.getD k (0, 0)).2 ≤ 8192 := HM.out _ (by rw [List.getD_eq_getElem?_getD, List.getElem?_eq_getElem (by rw [HL.out]; exact hlt)]; exact List.getElem_mem _)
      have htb : total (N.take k) ≤ 1000000000 := by omega
      clear c0 hb hlt2
      generalize (N.getD k (0, 0)).2 = m at *
      generalize total (N.take k) = T at *
      have hmx : max (m : Int) 0 = m := by omega
      go_wp2
      refine ⟨⟨k + 1, by go_num, ?_, by omega, trivial⟩, by simp [intOf]; omega⟩
      rw [HT.out]
      simp
    · have hltI : ¬ (k : Int) < len := by omega
      have e : N.take k = N := List.take_of_length_le (by have := HL.out; omega)
      rw [e]
      go_wp2
      go_ret
      exact ⟨rfl, rfl⟩

end Go.Proofs.YteellffkjjllgaaGreat

namespace Go.Rc5

theorem right_iff {N : List Sp} {n : Nat} (hf : ∀ s ∈ N, s.1 + s.2 ≤ n) : (N.Pairwise Apart ∧ castS (rows (memB N) n) = castS N) ↔ Ch 0 N := by
  constructor
  · rintro ⟨_, h⟩
    rw [← castS_inj h]
    exact (rows_ok _ _).ch
  · intro h
    refine ⟨h.apart, ?_⟩
    rw [rows_mem h]
    intro x hx
    rw [memB_iff] at hx
    obtain ⟨s, hs, h1, h2⟩ := hx
    have := hf s hs
    omega

theorem Ch.take {lo : Nat} {l : List Sp} (h : Ch lo l) (k : Nat) : Ch lo (l.take k) := by
  induction l generalizing lo k with
  | nil => simp; trivial
  | cons s r ih =>
    cases k with
    | zero => trivial
    | succ k => exact ⟨h.1, h.2.1, ih h.2.2 k⟩

/-- What lies behind the k-th span begins behind it. -/
theorem Ch.drop_ge {lo : Nat} {l : List Sp} (h : Ch lo l) (k : Nat) (hk : k < l.length) : Ch ((l.getD k (0, 0)).1 + (l.getD k (0, 0)).2 + 1) (l.drop (k + 1)) := by
  induction l generalizing lo k with
  | nil => simp at hk
  | cons s r ih =>
    cases k with
    | zero => simpa using h.2.2
    | succ k => simpa using ih h.2.2 k (by simpa using hk)

theorem Ch.ahead {lo : Nat} {l : List Sp} (h : Ch lo l) (k : Nat) (hk : k < l.length) : ∀ t ∈ l.take k, t.1 + t.2 + 1 ≤ (l.getD k (0, 0)).1 := by
  induction l generalizing lo k with
  | nil => simp at hk
  | cons s r ih =>
    cases k with
    | zero => intro t ht; simp at ht
    | succ k =>
      intro t ht
      rw [List.take_succ_cons, List.mem_cons] at ht
      have hk' : k < r.length := by simpa using hk
      rcases ht with rfl | ht
      · have hm : memB r (r.getD k (0, 0)).1 = true := by
          rw [memB_iff]
          refine ⟨r.getD k (0, 0), ?_, Nat.le_refl _, ?_⟩
          · rw [List.getD_eq_getElem?_getD, List.getElem?_eq_getElem hk']
            exact List.getElem_mem _
          · have := h.2.2.some (r.getD k (0, 0)) (by rw [List.getD_eq_getElem?_getD, List.getElem?_eq_getElem hk']; exact List.getElem_mem _)
            omega
        have := h.2.2.ge hm
        simpa using this
      · simpa using ih h.2.2 k hk' t ht

/-- How many sectors lie ahead of y, which is in the k-th span, or right behind it. -/
theorem cnt_at {l : List Sp} (h : Ch 0 l) (k y : Nat) (hk : k < l.length) (h1 : (l.getD k (0, 0)).1 ≤ y) (h2 : y ≤ (l.getD k (0, 0)).1 + (l.getD k (0, 0)).2) :
    cnt (memB l) y = total (l.take k) + (y - (l.getD k (0, 0)).1) := by
  have had := h.ahead k hk
  have hdr := h.drop_ge k hk
  have hsp : l = l.take k ++ [l.getD k (0, 0)] ++ l.drop (k + 1) := by
    rw [← take_snoc l k (0, 0) hk, List.take_append_drop]
  have hct := h.take k
  generalize hs : l.getD k (0, 0) = s at *
  obtain ⟨s1, s2⟩ := s
  dsimp only at h1 h2 had hdr
  have e : ∀ x, x < y → memB l x = memB (l.take k ++ [(s1, y - s1)]) x := by
    intro x hx
    conv => lhs; rw [hsp]
    rw [memB_append, memB_append, memB_append]
    have n1 : memB (l.drop (k + 1)) x = false := by
      rw [Bool.eq_false_iff]
      intro e
      have := hdr.ge e
      omega
    have n2 : memB [(s1, s2)] x = memB [(s1, y - s1)] x := by
      simp only [memB, List.any_cons, List.any_nil, Bool.or_false]
      rw [Bool.eq_iff_iff, inB_iff, inB_iff]
      dsimp only
      omega
    rw [n1, n2, Bool.or_false]
  rw [cnt_congr e, ← total_cnt (l := l.take k ++ [(s1, y - s1)]) (n := y)]
  · rw [total_append, total_cons, total_nil]
    rfl
  · rw [List.pairwise_append]
    refine ⟨hct.apart, List.pairwise_singleton _ _, fun t ht u hu x hx => ?_⟩
    rw [List.mem_singleton] at hu
    subst hu
    rw [Bool.eq_false_iff]
    intro e
    have a1 := (inB_iff _ _).1 hx
    have a2 := (inB_iff _ _).1 e
    have a3 := had t ht
    dsimp only at a2
    omega
  · intro t ht
    rw [List.mem_append, List.mem_singleton] at ht
    rcases ht with ht | rfl
    · have := had t ht
      omega
    · show s1 + (y - s1) ≤ y
      omega

/-- The n lowest sectors of a row, and the others. -/
def oneB (N : List Sp) (n x : Nat) : Bool := memB N x && decide (cnt (memB N) x < n)
def twoB (N : List Sp) (n x : Nat) : Bool := memB N x && !decide (cnt (memB N) x < n)

end Go.Rc5
namespace Go.Proofs.YteellffkjjllgaaGreat
open Go.RowKit Go.Rc5

set_option maxHeartbeats 2000000 in
theorem rright_bad (L : List SpI) (a : Option Addr) (c len : Nat) (size : Int) (w : World) (h : SpansAt w a L) (hl : L.length = len) (hlen : len ≤ 100000) (hb : Bad L size) :
    Calls Tryz.prog 61 #[.slice a len c, .int .i64 size] w fun e w' => e = .returned (.bool false) ∧ Below w.heap.size w w' := by
  have HM := Lib.hid (rnorm_bad L a c len size w h hl hlen hb)
  clear h hb hl
  go_enter Tryz.func61, Tryz.ntmps61
  go_wp2_with fail
  refine HM.out.mono ?_
  rintro e w1 ⟨rfl, hb1⟩
  go_wp2
  go_ret
  exact ⟨rfl, hb1⟩

def YesIf (p : Prop) (w : World) (e : Ending) (w' : World) : Prop := ∃ f : Bool, e = .returned (.bool f) ∧ (f = true ↔ p) ∧ Below w.heap.size w w'

set_option maxHeartbeats 4000000 in
theorem rright_good (L : List SpI) (N : List Sp) (n : Nat) (a : Option Addr) (c len : Nat) (w : World) (h : SpansAt w a L) (hl : L.length = len) (hlen : len ≤ 100000) (hg : Fits L N n) :
    Calls Tryz.prog 61 #[.slice a len c, .int .i64 n] w (YesIf (Ch 0 N) w) := by
  have HM := Lib.hid (rnorm_good L N n a c len w h hl hlen hg)
  have HS := Lib.hid (fun W (hb : Below w.heap.size w W) => SpansAt.below h hb)
  have HL := Lib.hid hl
  have HIFF := Lib.hid (right_iff hg.fit)
  have HEQ := Lib.hid hg.eq
  clear h hl hg
  go_enter Tryz.func61, Tryz.ntmps61
  go_wp2_with fail
  refine HM.out.mono ?_
  rintro e w1 (⟨rfl, hp, hb1⟩ | ⟨v, rfl, hp, hf⟩)
  · have HP := Lib.hid hp
    clear hp HM
    go_wp2
    go_ret
    exact ⟨false, rfl, by rw [← HIFF.out]; exact ⟨fun e => (by cases e), fun e => absurd e.1 HP.out⟩, hb1⟩
  · have HP := Lib.hid hp
    have hC := (Crew.start w).more hf
    obtain ⟨a1, c1, rfl⟩ := hC.slice 0 rfl
    obtain ⟨_, hat⟩ := spans_own (hC.own 0 rfl)
    have HB1 := Lib.hid hf.bel
    have HT := Lib.hid (fun W (hb : Below w1.heap.size w1 W) => SpansAt.below hat hb)
    have HLR := Lib.hid (rows_len (memB N) n)
    clear hp hf HM hC hat
    obtain ⟨R, hR⟩ : ∃ R, R = castS (rows (memB N) n) := ⟨_, rfl⟩
    rw [← hR] at HT HIFF ⊢
    rw [← HEQ.out] at HIFF
    obtain ⟨q, hq⟩ : ∃ q, R.length = q := ⟨_, rfl⟩
    rw [hq]
    have HQ := Lib.hid hq
    clear hR hq
    by_cases he : q = len
    · subst he
      go_wp2
      go_loopw [7] (fun i wr => ∃ k : Nat, i = .int .i64 k ∧ k ≤ q ∧ (∀ j, j < k → L.getD j (0, 0) = R.getD j (0, 0)) ∧ Below w1.heap.size w1 wr) (fun i _ => (q - intOf i).toNat)
      case atStart => exact ⟨0, rfl, Nat.zero_le _, fun j hj => absurd hj (Nat.not_lt_zero _), Below.refl _ _⟩
      case round =>
        obtain ⟨k, rfl, hk, hall, hBw⟩ := hrel
        have HAL := Lib.hid hall
        have HBW := Lib.hid (HB1.out.trans (hBw.mono HB1.out.size))
        clear hall
        by_cases hlt : k < q
        · have hltI : (k : Int) < q := by omega
          obtain ⟨x, rfl, c0, c1⟩ := HS.out wr HBW.out k (by rw [HL.out]; exact hlt)
          obtain ⟨y, rfl, d0, d1⟩ := HT.out wr hBw k (by rw [HQ.out]; exact hlt)
          by_cases hs : L.getD k (0, 0) = R.getD k (0, 0)
          · have HS2 := Lib.hid hs
            rw [← hs] at d0 d1
            clear hs
            generalize L.getD k (0, 0) = s at c0 c1 d0 d1
            obtain ⟨s1, s2⟩ := s
            dsimp only at c0 c1 d0 d1
            go_wp2_with fail
            go_quiet (fail)
            have HBQ := Lib.hid (below_drewN hBw nq)
            clear c0 c1 d0 d1
            generalize wr.drewN nq = wq at *
            go_wp2
            refine ⟨⟨k + 1, by go_num, by omega, fun j hj => ?_, HBQ.out⟩, by simp [intOf]; omega⟩
            by_cases e : j = k
            · subst e
              exact HS2.out
            · exact HAL.out j (by omega)
          · have HS2 := Lib.hid hs
            clear hs
            generalize hs : L.getD k (0, 0) = s at *
            generalize ht : R.getD k (0, 0) = t at *
            have HNE : Hid (¬ R = L) := fun e => HS2.out (by rw [← hs, ← ht, e])
            obtain ⟨s1, s2⟩ := s
            obtain ⟨t1, t2⟩ := t
            dsimp only at c0 c1 d0 d1
            clear hs ht
            by_cases h1 : s1 = t1
            · subst h1
              have h2 : (s2 == t2) = false := by
                rw [beq_eq_false_iff_ne]
                intro e
                exact HS2.out (by rw [e])
              clear HS2
              go_wp2_with fail
              go_quiet (fail)
              have HBQ := Lib.hid (below_drewN HBW.out nq)
              clear c0 c1 d0 d1
              generalize wr.drewN nq = wq at *
              go_wp2
              go_ret
              exact ⟨false, rfl, by rw [← HIFF.out]; exact ⟨fun e => (by cases e), fun e => absurd e.2 HNE.out⟩, HBQ.out⟩
            · have h1B : (s1 == t1) = false := by simpa using h1
              clear h1 HS2
              go_wp2_with fail
              go_quiet (fail)
              have HBQ := Lib.hid (below_drewN HBW.out nq)
              clear c0 c1 d0 d1
              generalize wr.drewN nq = wq at *
              go_wp2
              go_ret
              exact ⟨false, rfl, by rw [← HIFF.out]; exact ⟨fun e => (by cases e), fun e => absurd e.2 HNE.out⟩, HBQ.out⟩
        · have hltI : ¬ (k : Int) < q := by omega
          obtain rfl : k = q := by omega
          go_wp2
          go_ret
          have e : R = L := (list_same (HL.out.trans HQ.out.symm) (fun j hj => HAL.out j (by have := HL.out; omega))).symm
          exact ⟨true, rfl, by rw [← HIFF.out]; exact ⟨fun _ => ⟨HP.out, e⟩, fun _ => rfl⟩, HBW.out⟩
    · have heI : ((q : Int) != len) = true := by simp; omega
      have HNE : Hid (¬ R = L) := fun e => he (by rw [← HQ.out, ← HL.out, e])
      clear he
      go_wp2
      go_ret
      exact ⟨false, rfl, by rw [← HIFF.out]; exact ⟨fun e => (by cases e), fun e => absurd e.2 HNE.out⟩, HB1.out⟩

end Go.Proofs.YteellffkjjllgaaGreat

namespace Go.Rc5

def sumI (l : List SpI) : Int := (l.map (·.2)).sum

theorem sumI_nil : sumI [] = 0 := rfl
theorem sumI_snoc (l : List SpI) (s : SpI) : sumI (l ++ [s]) = sumI l + s.2 := by simp [sumI]
theorem sumI_append (l l' : List SpI) : sumI (l ++ l') = sumI l + sumI l' := by simp [sumI]
theorem sumI_pos {l : List SpI} (h : ∀ s ∈ l, 0 ≤ s.2) : 0 ≤ sumI l := by
  induction l with
  | nil => exact Int.le_refl _
  | cons s r ih =>
    have h1 := h s List.mem_cons_self
    have h2 := ih (fun t ht => h t (List.mem_cons_of_mem _ ht))
    have e : sumI (s :: r) = s.2 + sumI r := by simp [sumI]
    omega

/-- The spans that have sectors. -/
def fullL (N : List Sp) : List SpI := (castS N).filter fun s => decide (1 ≤ s.2)

theorem fullL_mem {N : List Sp} {s : SpI} (h : s ∈ fullL N) : ∃ t ∈ N, s = ((t.1 : Int), (t.2 : Int)) ∧ 1 ≤ t.2 := by
  unfold fullL at h
  rw [List.mem_filter] at h
  obtain ⟨h1, h2⟩ := h
  simp only [castS, List.mem_map] at h1
  obtain ⟨t, ht, rfl⟩ := h1
  exact ⟨t, ht, rfl, by simp at h2; omega⟩

theorem fullL_sum (N : List Sp) : sumI (fullL N) = total N := by
  induction N with
  | nil => rfl
  | cons s r ih =>
    have e : castS (s :: r) = ((s.1 : Int), (s.2 : Int)) :: castS r := rfl
    unfold fullL at ih ⊢
    rw [e, total_cons]
    by_cases h : 1 ≤ (s.2 : Int)
    · rw [List.filter_cons_of_pos (by simpa using h)]
      have e2 : ∀ (x : SpI) (l : List SpI), sumI (x :: l) = x.2 + sumI l := fun x l => by simp [sumI]
      rw [e2, ih]
      simp
    · rw [List.filter_cons_of_neg (by simpa using h), ih]
      omega

theorem fullL_pre {N : List Sp} {pre : List SpI} {x : SpI} (h : pre ++ [x] <+: fullL N) : 0 ≤ sumI pre ∧ 1 ≤ x.2 ∧ sumI pre + x.2 ≤ total N := by
  obtain ⟨r, hr⟩ := h
  have hp : ∀ s ∈ fullL N, 1 ≤ s.2 := fun s hs => by
    obtain ⟨t, _, rfl, h⟩ := fullL_mem hs
    show 1 ≤ (t.2 : Int)
    omega
  rw [← fullL_sum, ← hr, sumI_append, sumI_snoc]
  rw [← hr] at hp
  have h1 := sumI_pos (l := pre) (fun s hs => by have := hp s (by simp [hs]); omega)
  have h2 := sumI_pos (l := r) (fun s hs => by have := hp s (by simp [hs]); omega)
  have h3 := hp x (by simp)
  omega

def hasL (l : List SpI) (at_ : Int) : Bool := l.any fun s => decide (s.1 ≤ at_) && decide (at_ - s.1 < s.2)

theorem hasL_snoc (l : List SpI) (s : SpI) (at_ : Int) : hasL (l ++ [s]) at_ = (hasL l at_ || (decide (s.1 ≤ at_) && decide (at_ - s.1 < s.2))) := by simp [hasL]

theorem hasL_full (N : List Sp) (at_ : Int) : hasL (fullL N) at_ = hasI N at_ := by
  induction N with
  | nil => rfl
  | cons s r ih =>
    have e : castS (s :: r) = ((s.1 : Int), (s.2 : Int)) :: castS r := rfl
    unfold fullL at ih ⊢
    rw [e]
    have e2 : hasI (s :: r) at_ = ((decide ((s.1 : Int) ≤ at_) && decide (at_ - s.1 < s.2)) || hasI r at_) := by simp [hasI]
    rw [e2, ← ih]
    by_cases h : 1 ≤ (s.2 : Int)
    · rw [List.filter_cons_of_pos (by simpa using h)]
      simp [hasL]
    · rw [List.filter_cons_of_neg (by simpa using h)]
      have : (decide ((s.1 : Int) ≤ at_) && decide (at_ - s.1 < s.2)) = false := by
        by_cases h1 : (s.1 : Int) ≤ at_
        · have h2 : ¬ (at_ - s.1 < s.2) := by omega
          simp [h2]
        · simp [h1]
      rw [this, Bool.false_or]

theorem hasL_pre {l l' : List SpI} {at_ : Int} (h : l <+: l') (ht : hasL l at_ = true) : hasL l' at_ = true := by
  obtain ⟨r, rfl⟩ := h
  unfold hasL at ht ⊢
  rw [List.any_append, ht, Bool.true_or]

end Go.Rc5
namespace Go.Proofs.YteellffkjjllgaaGreat
open Go.RowKit Go.Rc5 Go.Shelf

attribute [local go_sem] Oper.semAt_some

theorem eg38 : ∀ args w, (callFunc 72 args).run Tryz.prog w = .ok (.enter 72 args) w := enters_of Tryz.func72 (by kernel_rfl) rfl
theorem eg40 : ∀ args w, (callFunc 86 args).run Tryz.prog w = .ok (.enter 86 args) w := enters_of Tryz.func86 (by kernel_rfl) rfl
set_option maxRecDepth 100000 in
set_option maxHeartbeats 4000000 in
theorem ptotal (N : List Sp) (a : Option Addr) (c len : Nat) (w : World) (h : SpansAt w a (castS N)) (hl : N.length = len) (hlen : len ≤ 100000) (hm : ∀ s ∈ N, s.2 ≤ 8192) :
    Calls Tryz.prog 56 #[.slice a len c] w fun e w' => e = .returned (.int .i64 (total N)) ∧ Below w.heap.size w w' := by
  have hb := total_bound N hm
  have htb : total N ≤ 1000000000 := by omega
  have H0 := ((Crew.start w).block #[.int .i64 0] 3).block #[.slice a len c] 23
  have hbl := H0.bel
  have HG := Lib.hid (full_gives (castS N) a c len (w.heap.size + 1) _ (by have := (H0.one (i := 1) rfl).choose_spec.1.1; rwa [World.size_alloc] at this) w.heap.size hbl.size (spans_reads h hbl) (by rw [castS_length, hl]) (by omega))
  rw [World.size_alloc] at H0
  have HC : Hid (Crew (fun _ => False) w [blkT (w.heap.size + 1) #[.slice a len c] 23, blkT w.heap.size #[.int .i64 0] 3] _) := H0.pick [1, 0] (by decide) rfl
  clear h hl hm hb H0 hbl
  refine (callsIn_wide (n := 3)).1 (callsIn_of_wp_marks Tryz.func56 rfl trivial ?_ rfl)
  simp only [Tryz.ntmps56, List.size_toArray, List.length_cons, List.length_nil, Nat.reduceAdd, Nat.reduceSub, Array.replicate_succ, Array.replicate_zero, List.push_toArray, List.append_toArray, List.nil_append, List.cons_append]
  gi_wp2_with (refine ⟨trivial, ?_⟩; gi_at_call 77; refine (callsIn_wide.2 (full_any _ _ _ _)).mono ?_; rintro e w1 ⟨rfl, rfl⟩)
  refine wpIn_range (gf := 86) rfl eg40 HG.out (Nat.le_refl _) (fun _ _ => rfl) (fun _ => rfl)
    (fun pre => blkT w.heap.size #[.int .i64 (sumI pre)] 3)
    (fun _ _ => withT False noT)
    (fun pre x a' => exT fun Bx : Nat => withT (a' = { tmps := #[.slice a len c, undef, .int .i64 0, .pointer (some ⟨w.heap.size, 0, none⟩), .pointer (some ⟨Bx, 0, none⟩), .slice a len c, .func (.func 86) #[] #[.pointer (some ⟨w.heap.size + 1, 0, none⟩)], .agg #[.int .i64 x.1, .int .i64 x.2], undef, undef, undef, undef, undef], defers := [] })
      (groupT [blkT w.heap.size #[.int .i64 (sumI pre)] 3, blkT Bx #[.int .i64 x.1, .int .i64 x.2] 38]))
    HC.out (by rintro OS _ ⟨_, rfl⟩ k (rfl | ⟨hk, _⟩); exact .inl rfl; exact .inr ⟨hk, fun h => h⟩) ?assign ?body ?done ?stop
  case assign =>
    rintro l' pre x O' W' K hI hK
    have C := (Crew.only hI).block #[.int .i64 x.1, .int .i64 x.2] 38
    have HT := Lib.hid (groupT_shut C)
    have HK := Lib.hid hK
    clear C hI hK
    dsimp only [encS]
    gi_wp2
    exact HK.out _ _ (Turns.ex W'.heap.size (Turns.and rfl HT.out))
  case body =>
    rintro l' pre x a' O' W' hpre ⟨Bx, rfl, hgrp⟩
    have C := groupT_open hgrp
    have hq := fullL_pre hpre
    have HN := Lib.hid (sumI_snoc pre x)
    obtain ⟨x1, x2⟩ := x
    have ct := (C.at 0 rfl (j := 0) rfl).1
    have ft := (C.at 0 rfl (j := 0) rfl).2
    have cx := (C.at 1 rfl (j := 0) rfl).1
    have cx1 := (C.at 1 rfl (j := 1) rfl).1
    have HC := Lib.hid C
    clear C hgrp hpre
    dsimp only at hq HN cx cx1
    generalize sumI pre = q at *
    have C4 := HC.out.set 0 rfl 0 (.int .i64 (q + x2))
    have HC4 : Hid (Turns (blkT w.heap.size #[.int .i64 (sumI (pre ++ [(x1, x2)]))] 3) O' W' (W'.setCell ⟨w.heap.size, 0, none⟩ (.int .i64 (q + x2)))) := by
      unfold Hid
      rw [HN.out]
      exact (C4.pick [0] (by decide) rfl).turns
    clear C4
    gi_wp2
    exact HC4.out
  case done =>
    intro D W3 C
    have ct := (C.at 1 rfl (j := 0) rfl).1
    have hD := C.obj 2 rfl
    have HB := Lib.hid (C.objPut 2 rfl (.deferred none)).bel
    clear C
    have hs : sumI ((castS N).filter fun s => decide (1 ≤ s.2)) = total N := fullL_sum N
    rw [hs] at ct
    gi_wp2
    refine ⟨by simp, .inl ⟨_, _, rfl, run_takeDeferred hD, ?_⟩⟩
    exact ⟨_, results_tmp rfl _ _ _, rfl, HB.out⟩
  case stop =>
    intro D c pre W3 _ C
    exact (C.with 1 rfl).1.elim


end Go.Proofs.YteellffkjjllgaaGreat

namespace Go.Rc5

/-- The first sector that a span behind these may begin at. -/
def exI (lo : Int) : List SpI → Int
  | [] => lo
  | s :: r => exI (s.1 + s.2 + 1) r

def rightI (lo size : Int) : List SpI → Bool
  | [] => true
  | s :: r => (insB s size && decide (lo ≤ s.1)) && rightI (s.1 + s.2 + 1) size r

theorem exI_snoc (lo : Int) (l : List SpI) (s : SpI) : exI lo (l ++ [s]) = s.1 + s.2 + 1 := by
  induction l generalizing lo with
  | nil => rfl
  | cons t r ih => exact ih _

theorem rightI_append (lo size : Int) (l l' : List SpI) : rightI lo size (l ++ l') = (rightI lo size l && rightI (exI lo l) size l') := by
  induction l generalizing lo with
  | nil => rfl
  | cons t r ih => simp only [List.cons_append, rightI, exI, ih, Bool.and_assoc]

theorem rightI_snoc (lo size : Int) (l : List SpI) (s : SpI) : rightI lo size (l ++ [s]) = (rightI lo size l && (insB s size && decide (exI lo l ≤ s.1))) := by
  rw [rightI_append]
  simp [rightI]

theorem rightI_pre {l l' : List SpI} {size : Int} (h : l <+: l') (hf : rightI 0 size l = false) : rightI 0 size l' = false := by
  obtain ⟨r, rfl⟩ := h
  rw [rightI_append, hf, Bool.false_and]

theorem rightI_ins {lo size : Int} {l : List SpI} (h : rightI lo size l = true) : ∀ s ∈ l, insB s size = true := by
  induction l generalizing lo with
  | nil => intro s hs; cases hs
  | cons t r ih =>
    unfold rightI at h
    simp only [Bool.and_eq_true] at h
    intro s hs
    rcases List.mem_cons.1 hs with rfl | hs
    · exact h.1.1
    · exact ih h.2 s hs

theorem exI_bound {size : Int} {l : List SpI} (hs : size ≤ 8192) (h : ∀ s ∈ l, insB s size = true) : 0 ≤ exI 0 l ∧ exI 0 l ≤ 8193 := by
  rcases List.eq_nil_or_concat l with rfl | ⟨q, s, rfl⟩
  · exact ⟨by simp [exI], by simp [exI]⟩
  · rw [List.concat_eq_append] at h ⊢
    rw [exI_snoc]
    have := (insB_iff s size).1 (h s (by simp))
    omega

theorem rightI_bad {L : List SpI} {size : Int} (h : ∃ s ∈ L, insB s size = false) : rightI 0 size L = false := by
  cases e : rightI 0 size L with
  | false => rfl
  | true =>
    obtain ⟨s, hs, hf⟩ := h
    rw [rightI_ins e s hs] at hf
    cases hf

theorem rightI_good {N : List Sp} {n : Nat} (hs : ∀ s ∈ N, 1 ≤ s.2) (hf : ∀ s ∈ N, s.1 + s.2 ≤ n) : rightI 0 n (castS N) = true ↔ Ch 0 N := by
  have key : ∀ (lo : Nat) (N : List Sp), (∀ s ∈ N, 1 ≤ s.2) → (∀ s ∈ N, s.1 + s.2 ≤ n) → (rightI lo n (castS N) = true ↔ Ch lo N) := by
    intro lo N
    induction N generalizing lo with
    | nil => intro _ _; exact ⟨fun _ => trivial, fun _ => rfl⟩
    | cons s r ih =>
      intro hs hf
      have h1 := hs s List.mem_cons_self
      have h2 := hf s List.mem_cons_self
      have ih' := ih (s.1 + s.2 + 1) (fun t ht => hs t (List.mem_cons_of_mem _ ht)) (fun t ht => hf t (List.mem_cons_of_mem _ ht))
      have e : castS (s :: r) = ((s.1 : Int), (s.2 : Int)) :: castS r := rfl
      rw [e]
      unfold rightI Ch
      dsimp only
      have e2 : ((s.1 : Int) + (s.2 : Int) + 1) = ((s.1 + s.2 + 1 : Nat) : Int) := by omega
      rw [e2]
      have e3 : insB ((s.1 : Int), (s.2 : Int)) n = true := (insB_iff _ _).2 ⟨by show 1 ≤ (s.2 : Int); omega, by show 0 ≤ (s.1 : Int); omega, by show (s.1 : Int) < n; omega, by show (s.2 : Int) ≤ n - s.1; omega⟩
      rw [e3, Bool.true_and, Bool.and_eq_true, ih', decide_eq_true_eq]
      constructor
      · rintro ⟨a, b⟩
        exact ⟨by omega, h1, b⟩
      · rintro ⟨a, _, b⟩
        exact ⟨by omega, b⟩
  exact key 0 N hs hf

end Go.Rc5
namespace Go.Proofs.YteellffkjjllgaaGreat
open Go.RowKit Go.Rc5 Go.Shelf

attribute [local go_sem] Oper.semAt_some

set_option maxHeartbeats 1000000 in
theorem sized_yes (size : Int) (h1 : 1 ≤ size) (h2 : size ≤ 8192) (w : World) : Calls Tryz.prog 64 #[.int .i64 size] w fun e w' => e = .returned (.bool true) ∧ w' = w := by
  go_enter Tryz.func64, Tryz.ntmps64
  go_wp2
  go_ret
  exact ⟨rfl, rfl⟩

set_option maxHeartbeats 1000000 in
theorem sized_no (size : Int) (h : size < 1 ∨ 8192 < size) (w : World) : Calls Tryz.prog 64 #[.int .i64 size] w fun e w' => e = .returned (.bool false) ∧ w' = w := by
  by_cases h1 : size < 1
  · have h1' : ¬ 1 ≤ size := by omega
    clear h
    go_enter Tryz.func64, Tryz.ntmps64
    go_wp2
    go_ret
    exact ⟨rfl, rfl⟩
  · have h1' : 1 ≤ size := by omega
    have h2 : ¬ size ≤ 8192 := by omega
    clear h h1
    go_enter Tryz.func64, Tryz.ntmps64
    go_wp2
    go_ret
    exact ⟨rfl, rfl⟩

set_option maxHeartbeats 2000000 in
theorem within_any (s1 s2 size : Int) (h1 : 1 ≤ size) (h2 : size ≤ 8192) (hs : s1 ≤ 9223372036854775807) (w : World) :
    Calls Tryz.prog 65 #[.agg #[.int .i64 s1, .int .i64 s2], .int .i64 size] w fun e w' => e = .returned (.bool (insB (s1, s2) size)) ∧ Below w.heap.size w w' := by
  have HB := Lib.hid ((Below.refl _ w).alloc (Nat.le_refl _) (.cells #[.int .i64 s1, .int .i64 s2] 38))
  by_cases b1 : 1 ≤ s2
  · by_cases b2 : 0 ≤ s1
    · by_cases b3 : s2 ≤ size - s1
      · have HY : Hid (insB (s1, s2) size = true) := (insB_iff _ _).2 ⟨b1, b2, by show s1 < size; omega, b3⟩
        go_enter Tryz.func65, Tryz.ntmps65
        go_wp2
        go_ret
        exact ⟨by rw [HY.out]; rfl, HB.out⟩
      · have HY : Hid (insB (s1, s2) size = false) := by
          unfold Hid
          cases e : insB (s1, s2) size with
          | false => rfl
          | true => exact absurd ((insB_iff _ _).1 e).2.2.2 b3
        go_enter Tryz.func65, Tryz.ntmps65
        go_wp2
        go_ret
        exact ⟨by rw [HY.out]; simp; try omega, HB.out⟩
    · have HY : Hid (insB (s1, s2) size = false) := by
        unfold Hid
        cases e : insB (s1, s2) size with
        | false => rfl
        | true => exact absurd ((insB_iff _ _).1 e).2.1 b2
      go_enter Tryz.func65, Tryz.ntmps65
      go_wp2
      go_ret
      exact ⟨by rw [HY.out]; simp; try omega, HB.out⟩
  · have HY : Hid (insB (s1, s2) size = false) := by
      unfold Hid
      cases e : insB (s1, s2) size with
      | false => rfl
      | true => exact absurd ((insB_iff _ _).1 e).1 b1
    go_enter Tryz.func65, Tryz.ntmps65
    go_wp2
    go_ret
    exact ⟨by rw [HY.out]; simp; try omega, HB.out⟩


set_option maxRecDepth 100000 in
set_option maxHeartbeats 8000000 in
theorem right_any (L : List SpI) (a : Option Addr) (c len : Nat) (size : Int) (h1 : 1 ≤ size) (h2 : size ≤ 8192) (w : World) (h : SpansAt w a L) (hl : L.length = len) (hlen : len ≤ 100000) (hin : ∀ s ∈ L, In64 s.1) :
    Calls Tryz.prog 55 #[.slice a len c, .int .i64 size] w fun e w' => e = .returned (.bool (rightI 0 size L)) ∧ Below w.heap.size w w' := by
  have H0 := ((((Crew.start w).block #[.int .i64 size] 3).block #[.bool false] 4).block #[.int .i64 0] 3).block #[.slice a len c] 23
  have hbl := H0.bel
  have HG := Lib.hid (values_gives L a c len (w.heap.size + 1 + 1 + 1) _ (by have := (H0.one (i := 3) rfl).choose_spec.1.1; simpa only [World.size_alloc] using this) w.heap.size hbl.size (spans_reads h hbl) hl (by omega))
  simp only [World.size_alloc] at H0
  have HC : Hid (Crew (fun _ => False) w [blkT (w.heap.size + 1 + 1 + 1) #[.slice a len c] 23, withT (rightI 0 size [] = true) (groupT [blkT w.heap.size #[.int .i64 size] 3, blkT (w.heap.size + 1) #[.bool false] 4, blkT (w.heap.size + 1 + 1) #[.int .i64 0] 3])] ((((w.alloc (.cells #[.int .i64 size] 3)).alloc (.cells #[.bool false] 4)).alloc (.cells #[.int .i64 0] 3)).alloc (.cells #[.slice a len c] 23))) := by
    have h := Crew.grp (H0.pick [3, 0, 1, 2] (by decide) rfl)
    obtain ⟨O, ho, hset, _⟩ := h.one (i := 1) rfl
    exact hset _ _ (Turns.and rfl (Turns.same ho))
  have HM := Lib.hid hin
  clear h hl hin H0 hbl
  refine (callsIn_wide (n := 3)).1 (callsIn_of_wp_marks Tryz.func55 rfl trivial ?_ rfl)
  simp only [Tryz.ntmps55, List.size_toArray, List.length_cons, List.length_nil, Nat.reduceAdd, Nat.reduceSub, Array.replicate_succ, Array.replicate_zero, List.push_toArray, List.append_toArray, List.nil_append, List.cons_append]
  gi_wp2_with (first | (refine ⟨trivial, ?_⟩; gi_at_call 64; refine (callsIn_wide.2 (sized_yes size h1 h2 _)).mono ?_; rintro e w1 ⟨rfl, rfl⟩) | (refine ⟨trivial, ?_⟩; gi_at_call 46; refine (callsIn_wide.2 (values_any _ _ _ _)).mono ?_; rintro e w1 ⟨rfl, rfl⟩))
  refine wpIn_range (gf := 72) rfl eg38 HG.out (Nat.le_refl _) (fun _ _ => rfl) (fun _ => rfl)
    (fun pre => withT (rightI 0 size pre = true) (groupT [blkT w.heap.size #[.int .i64 size] 3, blkT (w.heap.size + 1) #[.bool false] 4, blkT (w.heap.size + 1 + 1) #[.int .i64 (exI 0 pre)] 3]))
    (fun cd pre => withT (cd = .ret ∧ rightI 0 size pre = false) (blkT (w.heap.size + 1) #[.bool false] 4))
    (fun pre x a' => exT fun Bx : Nat => withT (rightI 0 size pre = true ∧ a' = { tmps := #[.slice a len c, .int .i64 size, undef, .pointer (some ⟨w.heap.size, 0, none⟩), .pointer (some ⟨w.heap.size + 1, 0, none⟩), .pointer (some ⟨w.heap.size + 1 + 1, 0, none⟩), .pointer (some ⟨Bx, 0, none⟩), .int .i64 size, .bool true, .bool false, .slice a len c, .func (.func 72) #[] #[.pointer (some ⟨w.heap.size + 1 + 1 + 1, 0, none⟩)], .agg #[.int .i64 x.1, .int .i64 x.2], undef, undef, undef, undef, undef, undef, undef, undef, undef, undef, undef, undef, undef, undef, undef, undef], defers := [] })
      (groupT [blkT w.heap.size #[.int .i64 size] 3, blkT (w.heap.size + 1) #[.bool false] 4, blkT (w.heap.size + 1 + 1) #[.int .i64 (exI 0 pre)] 3, blkT Bx #[.int .i64 x.1, .int .i64 x.2] 38]))
    HC.out (by rintro OS _ ⟨_, rfl⟩ k (rfl | ⟨hk, _⟩); exact .inl rfl; exact .inr ⟨hk, fun h => h⟩) ?assign ?body ?done ?stop
  case assign =>
    rintro l' pre x O' W' K ⟨hno, hI⟩ hK
    have C := (groupT_open hI).block #[.int .i64 x.1, .int .i64 x.2] 38
    have HT := Lib.hid (groupT_shut C)
    have HK := Lib.hid hK
    have HNO := Lib.hid hno
    clear C hI hK hno
    dsimp only [encS]
    gi_wp2
    exact HK.out _ _ (Turns.ex W'.heap.size (Turns.and ⟨HNO.out, rfl⟩ HT.out))
  case body =>
    rintro l' pre x a' O' W' hpre ⟨Bx, ⟨hno, rfl⟩, hgrp⟩
    have C := groupT_open hgrp
    have HN := Lib.hid (rightI_snoc 0 size pre x)
    have HE := Lib.hid (exI_snoc 0 pre x)
    have hx1 : x.1 ≤ 9223372036854775807 := (HM.out x (hpre.subset (by simp))).2
    have hq := exI_bound h2 (rightI_ins hno)
    rw [hno, Bool.true_and] at HN
    obtain ⟨x1, x2⟩ := x
    dsimp only at hx1
    have cz := (C.at 0 rfl (j := 0) rfl).1
    have cx := (C.at 3 rfl (j := 0) rfl).1
    have cx1 := (C.at 3 rfl (j := 1) rfl).1
    have HC := Lib.hid C
    clear C hgrp hpre hno
    dsimp only at HN HE cx cx1
    generalize exI 0 pre = q at *
    have HI := Lib.hid (insB_iff (x1, x2) size)
    cases hb : insB (x1, x2) size with
    | false =>
      rw [hb, Bool.false_and] at HN
      gi_wp2_with (refine ⟨trivial, ?_⟩; gi_at_call 65; refine (CallsIn.inRound l' (callsIn_wide.2 (within_any x1 x2 size h1 h2 hx1 _))).mono ?_; rintro e w4 ⟨rfl, hb4⟩; rw [hb]; have C4 := HC.out.below hb4; have cr := (C4.at 1 rfl (j := 0) rfl).1; have fr := (C4.at 1 rfl (j := 0) rfl).2; have HC5 := Lib.hid ((C4.set 1 rfl 0 (.bool false)).pick [1] (by decide) rfl).turns; clear C4)
      exact Turns.and ⟨rfl, HN.out⟩ HC5.out
    | true =>
      have hI := HI.out.1 hb
      dsimp only at hI
      by_cases b2 : q ≤ x1
      · rw [hb, Bool.true_and, decide_eq_true b2] at HN
        have b2' : ¬ x1 < q := by omega
        gi_wp2_with (refine ⟨trivial, ?_⟩; gi_at_call 65; refine (CallsIn.inRound l' (callsIn_wide.2 (within_any x1 x2 size h1 h2 hx1 _))).mono ?_; rintro e w4 ⟨rfl, hb4⟩; rw [hb]; have C4 := HC.out.below hb4; have ce := (C4.at 2 rfl (j := 0) rfl).1; have fe := (C4.at 2 rfl (j := 0) rfl).2; have cx' := (C4.at 3 rfl (j := 0) rfl).1; have cx1' := (C4.at 3 rfl (j := 1) rfl).1; have HC4 := Lib.hid C4; clear C4 hb4 cx cx1 cz)
        have C5 := HC4.out.set 2 rfl 0 (.int .i64 (x1 + x2 + 1))
        refine Turns.and HN.out ?_
        rw [HE.out]
        exact groupT_shut (C5.pick [0, 1, 2] (by decide) rfl)
      · rw [hb, Bool.true_and, decide_eq_false b2] at HN
        have b2' : x1 < q := by omega
        gi_wp2_with (refine ⟨trivial, ?_⟩; gi_at_call 65; refine (CallsIn.inRound l' (callsIn_wide.2 (within_any x1 x2 size h1 h2 hx1 _))).mono ?_; rintro e w4 ⟨rfl, hb4⟩; rw [hb]; have C4 := HC.out.below hb4; have ce := (C4.at 2 rfl (j := 0) rfl).1; have cx' := (C4.at 3 rfl (j := 0) rfl).1; have cr := (C4.at 1 rfl (j := 0) rfl).1; have fr := (C4.at 1 rfl (j := 0) rfl).2; have HC5 := Lib.hid ((C4.set 1 rfl 0 (.bool false)).pick [1] (by decide) rfl).turns; clear C4 hb4 cx cx1 cz)
        exact Turns.and ⟨rfl, HN.out⟩ HC5.out
  case done =>
    intro D W3 C
    obtain ⟨hno, C⟩ := C.with 1 rfl
    have C := C.spill 1 rfl
    have cr := (C.at 4 rfl (j := 0) rfl).1
    have fr := (C.at 4 rfl (j := 0) rfl).2
    have C2 := C.set 4 rfl 0 (.bool true)
    have hD := C2.obj 2 rfl
    have cr2 := ((C2.objPut 2 rfl (.deferred none)).at 4 rfl (j := 0) rfl).1
    have HB := Lib.hid (C2.objPut 2 rfl (.deferred none)).bel
    have HSN := Lib.hid hno
    clear C C2 hno
    gi_wp2
    refine ⟨by simp, .inl ⟨_, _, rfl, run_takeDeferred hD, ?_⟩⟩
    exact ⟨_, results_cell1 rfl _ _ _ _ rfl Tryz.isAgg4 cr2, by rw [HSN.out]; rfl, HB.out⟩
  case stop =>
    intro D c pre W3 hpre C
    obtain ⟨⟨rfl, hy⟩, C⟩ := C.with 1 rfl
    have hD := C.obj 2 rfl
    have cr2 := ((C.objPut 2 rfl (.deferred none)).at 1 rfl (j := 0) rfl).1
    have HB := Lib.hid (C.objPut 2 rfl (.deferred none)).bel
    have HSN : Hid (rightI 0 size L = false) := rightI_pre hpre hy
    clear C hy hpre
    gi_wp2
    refine ⟨by simp, .inl ⟨_, _, rfl, run_takeDeferred hD, ?_⟩⟩
    exact ⟨_, results_cell1 rfl _ _ _ _ rfl Tryz.isAgg4 cr2, by rw [HSN.out]; rfl, HB.out⟩

set_option maxHeartbeats 2000000 in
theorem right_size (a : Option Addr) (c len : Nat) (size : Int) (h : size < 1 ∨ 8192 < size) (w : World) :
    Calls Tryz.prog 55 #[.slice a len c, .int .i64 size] w fun e w' => e = .returned (.bool false) ∧ Below w.heap.size w w' := by
  have HH := Lib.hid h
  have H0 := ((Crew.start w).block #[.int .i64 size] 3).block #[.bool false] 4
  rw [World.size_alloc] at H0
  have cr := (H0.at 1 rfl (j := 0) rfl).1
  have HB := Lib.hid H0.bel
  clear h H0
  go_enter Tryz.func55, Tryz.ntmps55
  go_wp2_with (go_at_call 64; refine (sized_no size HH.out _).mono ?_; rintro e w1 ⟨rfl, rfl⟩)
  refine bodyPost_ret (results_cell1 rfl _ _ _ _ rfl Tryz.isAgg4 cr) rfl ?_
  exact ⟨rfl, HB.out⟩

theorem pright_bad (L : List SpI) (a : Option Addr) (c len : Nat) (size : Int) (w : World) (h : SpansAt w a L) (hl : L.length = len) (hlen : len ≤ 100000) (hb : Bad L size) (hin : ∀ s ∈ L, In64 s.1) :
    Calls Tryz.prog 55 #[.slice a len c, .int .i64 size] w fun e w' => e = .returned (.bool false) ∧ Below w.heap.size w w' := by
  by_cases h1 : size < 1
  · exact right_size a c len size (.inl h1) w
  · by_cases h2 : 8192 < size
    · exact right_size a c len size (.inr h2) w
    · have hx : ∃ s ∈ L, insB s size = false := by
        rcases hb with h | h | h
        · exact absurd h h1
        · exact absurd h h2
        · exact h
      have := right_any L a c len size (by omega) (by omega) w h hl hlen hin
      rw [rightI_bad hx] at this
      exact this

theorem pright_good (L : List SpI) (N : List Sp) (n : Nat) (a : Option Addr) (c len : Nat) (w : World) (h : SpansAt w a L) (hl : L.length = len) (hlen : len ≤ 100000) (hg : Fits L N n) :
    Calls Tryz.prog 55 #[.slice a len c, .int .i64 n] w (YesIf (Ch 0 N) w) := by
  have hlo := hg.lo
  have hhi := hg.hi
  refine (right_any L a c len n (by omega) (by omega) w h hl hlen (fun s hs => ?_)).mono ?_
  · rw [hg.eq] at hs
    simp only [castS, List.mem_map] at hs
    obtain ⟨t, ht, rfl⟩ := hs
    have := hg.fit t ht
    exact ⟨by show -9223372036854775808 ≤ (t.1 : Int); omega, by show (t.1 : Int) ≤ 9223372036854775807; omega⟩
  · rintro e w' ⟨rfl, hb⟩
    exact ⟨_, rfl, by rw [hg.eq]; exact rightI_good hg.some hg.fit, hb⟩

end Go.Proofs.YteellffkjjllgaaGreat

namespace Go.Rc7
open Go.Rc5 Go.Rc6

structure Fl where
  name : ByteArray
  size : Int
  spans : List SpI

instance : Inhabited Fl := ⟨⟨.empty, 0, []⟩⟩

/-! ### Names, by their bytes -/

def lt (a b : ByteArray) : Bool := Op.bytesLess a.toList b.toList

theorem name_ext {a b : ByteArray} (h : a.toList = b.toList) : a = b := by
  rw [ByteArray.toList_eq, ByteArray.toList_eq] at h
  exact ByteArray.ext (Array.toList_inj.1 h)

theorem lt_eq (a b : ByteArray) : lt a b = decide (a.toList < b.toList) := Proofs.bytesLess_eq _ _

theorem lt_irrefl (a : ByteArray) : lt a a = false := by
  rw [lt_eq, decide_eq_false_iff_not]
  exact List.lt_irrefl _

theorem lt_trans {a b c : ByteArray} (h : lt a b = true) (k : lt b c = true) : lt a c = true := by
  rw [lt_eq, decide_eq_true_eq] at *
  exact List.lt_trans h k

theorem lt_tri {a b : ByteArray} (h : lt a b = false) (hne : a ≠ b) : lt b a = true := by
  rw [lt_eq, decide_eq_false_iff_not] at h
  rw [lt_eq, decide_eq_true_eq]
  rcases List.le_iff_lt_or_eq.1 (List.not_lt.1 h) with h | h
  · exact h
  · exact absurd (name_ext h.symm) hne

theorem lt_ne {a b : ByteArray} (h : lt a b = true) : a ≠ b := by
  rintro rfl
  rw [lt_irrefl] at h
  cases h

theorem lt_asymm {a b : ByteArray} (h : lt a b = true) : lt b a = false := by
  cases k : lt b a with
  | false => rfl
  | true =>
    have := lt_trans h k
    rw [lt_irrefl] at this
    cases this

/-- Names in their order, each once. -/
def Rises (l : List ByteArray) : Prop := l.Pairwise fun a b => lt a b = true

theorem eq_beq (a b : ByteArray) : (a.toList == b.toList) = decide (a = b) := by
  rw [Bool.eq_iff_iff, beq_iff_eq, decide_eq_true_eq]
  exact ⟨name_ext, fun h => h ▸ rfl⟩

/-- Not as far, and not the same: below. -/
theorem leq_iff (a b : ByteArray) : (Op.bytesLess b.toList a.toList || b.toList == a.toList) = !lt a b := by
  show (lt b a || b.toList == a.toList) = _
  rw [eq_beq]
  cases h : lt a b with
  | true => simp [lt_asymm h, (lt_ne h).symm]
  | false =>
    by_cases e : b = a
    · simp [e]
    · simp [lt_tri h (fun h => e h.symm)]

theorem rises_take {l : List ByteArray} {k : Nat} (hk : k < l.length) (h0 : 0 < k) (h : Rises (l.take k)) (hs : lt (l.getD (k - 1) .empty) (l.getD k .empty) = true) : Rises (l.take (k + 1)) := by
  unfold Rises at *
  rw [take_snoc l k .empty hk, List.pairwise_append]
  refine ⟨h, List.pairwise_singleton _ _, fun a ha b hb => ?_⟩
  rw [List.mem_singleton] at hb
  subst hb
  rw [List.mem_iff_getElem] at ha
  obtain ⟨i, hi, rfl⟩ := ha
  have hik : i < k := by rw [List.length_take] at hi; omega
  by_cases e : i = k - 1
  · subst e
    rw [List.getElem_take]
    simpa [List.getD_eq_getElem?_getD, show k - 1 < l.length by omega] using hs
  · have h1 := List.pairwise_iff_getElem.1 h i (k - 1) hi (by rw [List.length_take]; omega) (by omega)
    rw [List.getElem_take, List.getElem_take] at h1
    rw [List.getElem_take]
    refine lt_trans h1 ?_
    simpa [List.getD_eq_getElem?_getD, show k - 1 < l.length by omega] using hs

theorem rises_not {l : List ByteArray} {k : Nat} (hk : k < l.length) (h0 : 0 < k) (hs : lt (l.getD (k - 1) .empty) (l.getD k .empty) = false) : ¬ Rises l := by
  intro h
  have h1 := List.pairwise_iff_getElem.1 h (k - 1) k (by omega) hk (by omega)
  have e : lt (l.getD (k - 1) .empty) (l.getD k .empty) = lt l[k - 1] l[k] := by
    simp [List.getD_eq_getElem?_getD, show k - 1 < l.length by omega, hk]
  rw [e, h1] at hs
  cases hs

theorem rises_one {l : List ByteArray} {k : Nat} (hk : k ≤ 1) : Rises (l.take k) := by
  unfold Rises
  rcases l with _ | ⟨x, r⟩
  · simp
  · rcases k with _ | _ | k
    · simp
    · simp
    · omega

/-! ### A name's bytes -/

theorem dec_four (l : List UInt8) (h : l ≠ []) : (Rc1.dec l).2 ≤ 4 := (Rc1.dec_facts l h).2.1

theorem cut_four : ∀ l, l.length ≤ 4 * (Rc1.cut l).length := by
  refine Rc1.cut_ind (by simp [Rc1.cut_nil]) fun l hne ih => ?_
  rw [Rc1.cut_cons l hne, List.length_cons]
  rw [List.length_drop] at ih
  have := dec_four l hne
  omega

theorem name_len {l : List UInt8} (h : Rc1.right l = true) : l.length ≤ 96 ∧ 0 < l.length := by
  unfold Rc1.right at h
  simp only [Bool.and_eq_true, decide_eq_true_eq] at h
  have h1 := cut_four l
  have h2 : (Rc1.cut l).length ≤ 24 := h.1.1.1.2
  have h3 : 1 ≤ (Rc1.cut l).length := h.1.1.1.1
  refine ⟨by omega, ?_⟩
  rcases l with _ | ⟨x, r⟩
  · simp [Rc1.cut_nil] at h3
  · simp

/-! ### Files that are well -/

structure Well (f : Fl) : Prop where
  name : Rc1.right f.name.data.toList = true
  lo : 0 ≤ f.size
  hi : f.size ≤ 20000
  many : f.spans.length ≤ 200
  row : ∃ N : List Sp, f.spans = castS N ∧ Ch 0 N ∧ (∀ s ∈ N, 1 ≤ s.2 ∧ s.1 + s.2 ≤ 8192) ∧ total N = need f.size.toNat

structure Dir (L : List Fl) : Prop where
  many : L.length ≤ 120
  rises : Rises (L.map (·.name))
  well : ∀ f ∈ L, Well f

theorem Well.name_le {f : Fl} (h : Well f) : f.name.size ≤ 96 := by
  have := (name_len h.name).1
  simpa using this

theorem Well.span {f : Fl} (h : Well f) : ∀ s ∈ f.spans, 0 ≤ s.1 ∧ s.1 < 65536 ∧ 0 ≤ s.2 ∧ s.2 < 65536 := by
  obtain ⟨N, hN, _, hs, _⟩ := h.row
  intro s hm
  rw [hN] at hm
  simp only [castS, List.mem_map] at hm
  obtain ⟨t, ht, rfl⟩ := hm
  have := hs t ht
  exact ⟨by show 0 ≤ (t.1 : Int); omega, by show (t.1 : Int) < 65536; omega, by show 0 ≤ (t.2 : Int); omega, by show (t.2 : Int) < 65536; omega⟩

/-! ### Bytes -/

def spanT (s : SpI) : List UInt8 := Rc2.put 2 s.1.toNat ++ Rc2.put 2 s.2.toNat
def spansT (l : List SpI) : List UInt8 := l.flatMap spanT
def headT (f : Fl) : List UInt8 := Rc2.put 1 f.name.size ++ (f.name.data.toList ++ (Rc2.put 4 f.size.toNat ++ Rc2.put 1 f.spans.length))
def textT (f : Fl) : List UInt8 := headT f ++ spansT f.spans
def filesT (L : List Fl) : List UInt8 := L.flatMap textT
def bodyT (L : List Fl) : List UInt8 := Rc2.put 1 L.length ++ filesT L

theorem spansT_cons (s : SpI) (l : List SpI) : spansT (s :: l) = spanT s ++ spansT l := rfl
theorem filesT_cons (f : Fl) (l : List Fl) : filesT (f :: l) = textT f ++ filesT l := rfl

theorem spanT_length (s : SpI) : (spanT s).length = 4 := by simp [spanT, Rc2.put_length]

theorem spansT_length (l : List SpI) : (spansT l).length = 4 * l.length := by
  induction l with
  | nil => rfl
  | cons s r ih => rw [spansT_cons, List.length_append, spanT_length, ih, List.length_cons]; omega

theorem spansT_snoc (l : List SpI) (s : SpI) : spansT (l ++ [s]) = spansT l ++ spanT s := by simp [spansT]
theorem filesT_snoc (l : List Fl) (f : Fl) : filesT (l ++ [f]) = filesT l ++ textT f := by simp [filesT]

theorem headT_length (f : Fl) : (headT f).length = 6 + f.name.size := by
  simp [headT, Rc2.put_length]
  omega

theorem textT_length (f : Fl) : (textT f).length = 6 + f.name.size + 4 * f.spans.length := by
  rw [textT, List.length_append, headT_length, spansT_length]

theorem Well.text_le {f : Fl} (h : Well f) : (textT f).length ≤ 902 := by
  have h1 := h.name_le
  have h2 := h.many
  rw [textT_length]
  omega

theorem filesT_le {L : List Fl} (h : ∀ f ∈ L, Well f) : (filesT L).length ≤ 902 * L.length := by
  induction L with
  | nil => simp [filesT]
  | cons f r ih =>
    have h1 := (h f List.mem_cons_self).text_le
    have h2 := ih (fun g hg => h g (List.mem_cons_of_mem _ hg))
    rw [filesT_cons, List.length_append, List.length_cons]
    omega

theorem Dir.body_le {L : List Fl} (h : Dir L) : (bodyT L).length ≤ 108241 := by
  have h1 := filesT_le h.well
  have h2 := h.many
  rw [bodyT, List.length_append, Rc2.put_length]
  omega

theorem put_inj {k n m : Nat} {x y : List UInt8} (hn : n < 256 ^ k) (hm : m < 256 ^ k) (h : Rc2.put k n ++ x = Rc2.put k m ++ y) : n = m ∧ x = y := by
  obtain ⟨h1, h2⟩ := List.append_inj h (by rw [Rc2.put_length, Rc2.put_length])
  refine ⟨?_, h2⟩
  rw [← say_put_lt k n hn, h1, say_put_lt k m hm]

theorem spansT_inj {l m : List SpI} {x y : List UInt8} (hl : ∀ s ∈ l, 0 ≤ s.1 ∧ s.1 < 65536 ∧ 0 ≤ s.2 ∧ s.2 < 65536) (hm : ∀ s ∈ m, 0 ≤ s.1 ∧ s.1 < 65536 ∧ 0 ≤ s.2 ∧ s.2 < 65536) (hlen : l.length = m.length) (h : spansT l ++ x = spansT m ++ y) : l = m ∧ x = y := by
  induction l generalizing m with
  | nil =>
    rcases m with _ | ⟨t, q⟩
    · exact ⟨rfl, h⟩
    · simp at hlen
  | cons s r ih =>
    rcases m with _ | ⟨t, q⟩
    · simp at hlen
    · have hs := hl s List.mem_cons_self
      have ht := hm t List.mem_cons_self
      rw [spansT_cons, spansT_cons, spanT, spanT] at h
      simp only [List.append_assoc] at h
      obtain ⟨e1, h⟩ := put_inj (by omega) (by omega) h
      obtain ⟨e2, h⟩ := put_inj (by omega) (by omega) h
      obtain ⟨e3, h⟩ := ih (fun u hu => hl u (List.mem_cons_of_mem _ hu)) (fun u hu => hm u (List.mem_cons_of_mem _ hu)) (by simpa using hlen) h
      have e : s = t := Prod.ext (by omega) (by omega)
      exact ⟨by rw [e, e3], h⟩

theorem text_inj {f g : Fl} (hf : Well f) (hg : Well g) {x y : List UInt8} (h : textT f ++ x = textT g ++ y) : f = g ∧ x = y := by
  have h1 := hf.name_le
  have h2 := hg.name_le
  have h3 := hf.many
  have h4 := hg.many
  have h5 := hf.lo
  have h6 := hg.lo
  have h7 := hf.hi
  have h8 := hg.hi
  unfold textT headT at h
  simp only [List.append_assoc] at h
  obtain ⟨e1, h⟩ := put_inj (by omega) (by omega) h
  obtain ⟨e2, h⟩ := List.append_inj h (by simpa using e1)
  obtain ⟨e3, h⟩ := put_inj (by omega) (by omega) h
  obtain ⟨e4, h⟩ := put_inj (by omega) (by omega) h
  obtain ⟨e5, h⟩ := spansT_inj hf.span hg.span e4 h
  refine ⟨?_, h⟩
  obtain ⟨n1, s1, p1⟩ := f
  obtain ⟨n2, s2, p2⟩ := g
  simp only at e2 e3 e5 h5 h6
  rw [show n1 = n2 from ByteArray.ext (Array.toList_inj.1 e2), show s1 = s2 by omega, e5]

theorem files_inj {L M : List Fl} (hL : ∀ f ∈ L, Well f) (hM : ∀ f ∈ M, Well f) (hlen : L.length = M.length) {x y : List UInt8} (h : filesT L ++ x = filesT M ++ y) : L = M ∧ x = y := by
  induction L generalizing M with
  | nil =>
    rcases M with _ | ⟨t, q⟩
    · exact ⟨rfl, h⟩
    · simp at hlen
  | cons s r ih =>
    rcases M with _ | ⟨t, q⟩
    · simp at hlen
    · rw [filesT_cons, filesT_cons] at h
      simp only [List.append_assoc] at h
      obtain ⟨e1, h⟩ := text_inj (hL s List.mem_cons_self) (hM t List.mem_cons_self) h
      obtain ⟨e3, h⟩ := ih (fun u hu => hL u (List.mem_cons_of_mem _ hu)) (fun u hu => hM u (List.mem_cons_of_mem _ hu)) (by simpa using hlen) h
      exact ⟨by rw [e1, e3], h⟩

theorem body_inj {L M : List Fl} (hL : Dir L) (hM : Dir M) {x y : List UInt8} (h : bodyT L ++ x = bodyT M ++ y) : L = M ∧ x = y := by
  have h1 := hL.many
  have h2 := hM.many
  unfold bodyT at h
  simp only [List.append_assoc] at h
  obtain ⟨e1, h⟩ := put_inj (by omega) (by omega) h
  exact files_inj hL.well hM.well e1 h

end Go.Rc7

namespace Go.Rc7
open Go.Rc5

/-- A row of texts, read. -/
def StrsAt (w : World) (a : Option Addr) (S : List ByteArray) : Prop := ∀ i, i < S.length → ∃ x, a = some x ∧ w.cell? (x.add i) = some (.string (S.getD i .empty))

/-- A row of rows of spans, read. -/
def RowsAt (w : World) (a : Option Addr) (R : List (List SpI)) : Prop :=
  ∀ i, i < R.length → ∃ x p c, a = some x ∧ w.cell? (x.add i) = some (.slice p (R.getD i []).length c) ∧ SpansAt w p (R.getD i [])

/-- A file, read. -/
def FileAt (w : World) (x : Addr) (f : Fl) : Prop :=
  w.cell? x = some (.string f.name) ∧ w.cell? ⟨x.block, x.off + 1, none⟩ = some (.int .i64 f.size) ∧ ∃ p c, w.cell? ⟨x.block, x.off + 2, none⟩ = some (.slice p f.spans.length c) ∧ SpansAt w p f.spans

/-- A row of files, read. -/
def FilesAt (w : World) (a : Option Addr) (L : List Fl) : Prop := ∀ i, i < L.length → ∃ x, a = some x ∧ FileAt w (x.add (i * 3)) (L.getD i default)

/-- A file with the place of its spans. -/
abbrev FR := Fl × Option Addr × Nat

def rowC (r : FR) : Value := .slice r.2.1 r.1.spans.length r.2.2
def fileC (r : FR) : List Value := [.string r.1.name, .int .i64 r.1.size, rowC r]
def filesC (R : List FR) : List Value := R.flatMap fileC

theorem filesC_cons (r : FR) (R : List FR) : filesC (r :: R) = fileC r ++ filesC R := rfl

theorem filesC_length (R : List FR) : (filesC R).length = R.length * 3 := by
  induction R with
  | nil => rfl
  | cons x r ih => rw [filesC_cons, List.length_append, ih, List.length_cons]; show 3 + _ = _; omega

theorem filesC_append (p q : List FR) : filesC (p ++ q) = filesC p ++ filesC q := by simp [filesC]

theorem filesC_snoc (p : List FR) (r : FR) : filesC (p ++ [r]) = filesC p ++ fileC r := by simp [filesC]

theorem fileC_one (r : FR) : ∀ u ∈ fileC r, u.oneCell' = true := by
  intro u hu
  simp only [fileC, rowC, List.mem_cons, List.not_mem_nil, or_false] at hu
  rcases hu with rfl | rfl | rfl <;> rfl

theorem filesC_one (R : List FR) : ∀ u ∈ filesC R, u.oneCell' = true := by
  intro u hu
  unfold filesC at hu
  rw [List.mem_flatMap] at hu
  obtain ⟨r, _, h⟩ := hu
  exact fileC_one r u h

theorem filesC_at (R : List FR) (i : Nat) (h : i < R.length) : (filesC R)[i * 3]? = some (.string (R.getD i default).1.name) ∧ (filesC R)[i * 3 + 1]? = some (.int .i64 (R.getD i default).1.size) ∧ (filesC R)[i * 3 + 2]? = some (rowC (R.getD i default)) := by
  induction R generalizing i with
  | nil => simp at h
  | cons x r ih =>
    cases i with
    | zero => simp [filesC_cons, fileC]
    | succ i =>
      have := ih i (by simpa using h)
      have e1 : (i + 1) * 3 = i * 3 + 1 + 1 + 1 := by omega
      rw [e1]
      simpa [filesC_cons, fileC] using this

theorem StrsAt.later {w w' : World} {a : Option Addr} {S : List ByteArray} (h : StrsAt w a S) (hk : ∀ x v, w.cell? x = some v → w'.cell? x = some v) : StrsAt w' a S := by
  intro i hi
  obtain ⟨x, hx, c0⟩ := h i hi
  exact ⟨x, hx, hk _ _ c0⟩

theorem RowsAt.later {w w' : World} {a : Option Addr} {R : List (List SpI)} (h : RowsAt w a R) (hk : ∀ x v, w.cell? x = some v → w'.cell? x = some v) : RowsAt w' a R := by
  intro i hi
  obtain ⟨x, p, c, hx, c0, hs⟩ := h i hi
  exact ⟨x, p, c, hx, hk _ _ c0, hs.later hk⟩

theorem FileAt.later {w w' : World} {x : Addr} {f : Fl} (h : FileAt w x f) (hk : ∀ x v, w.cell? x = some v → w'.cell? x = some v) : FileAt w' x f := by
  obtain ⟨h0, h1, p, c, h2, h3⟩ := h
  exact ⟨hk _ _ h0, hk _ _ h1, p, c, hk _ _ h2, h3.later hk⟩

theorem FilesAt.later {w w' : World} {a : Option Addr} {L : List Fl} (h : FilesAt w a L) (hk : ∀ x v, w.cell? x = some v → w'.cell? x = some v) : FilesAt w' a L := by
  intro i hi
  obtain ⟨x, hx, hf⟩ := h i hi
  exact ⟨x, hx, hf.later hk⟩

theorem getD_map {α β : Type} (f : α → β) (l : List α) (i : Nat) (d : α) (d' : β) (h : i < l.length) : (l.map f).getD i d' = f (l.getD i d) := by
  simp [List.getD_eq_getElem?_getD, h]

end Go.Rc7
namespace Go.Proofs.YteellffkjjllgaaGreat
open Go.ChangeShapes Go.WideShapes Go.ChangeAt Go.RowKit Go.Rc5 Go.Rc7 Go.Deep

section
variable {w w' : World} {a : Option Addr}

theorem keeps (hb : Below w.heap.size w w') : ∀ x v, w.cell? x = some v → w'.cell? x = some v := fun _ _ hc => (hb.cell (row_block hc)).trans hc

theorem StrsAt.below {S : List ByteArray} (h : StrsAt w a S) (hb : Below w.heap.size w w') : StrsAt w' a S := h.later (keeps hb)
theorem RowsAt.below {S : List (List SpI)} (h : RowsAt w a S) (hb : Below w.heap.size w w') : RowsAt w' a S := h.later (keeps hb)
theorem FileAt.below {x : Addr} {f : Fl} (h : FileAt w x f) (hb : Below w.heap.size w w') : FileAt w' x f := h.later (keeps hb)
theorem FilesAt.below {L : List Fl} (h : FilesAt w a L) (hb : Below w.heap.size w w') : FilesAt w' a L := h.later (keeps hb)

end

theorem strs_own {w : World} {base e n : Nat} {a : Option Addr} {c : Nat} {S : List ByteArray} (h : w.ownsRow base e 1 (.slice a n c) n (S.map .string)) : S.length = n ∧ StrsAt w a S := by
  have hl : S.length = n := by have := h.1; simpa using this
  refine ⟨hl, fun i hi => ?_⟩
  rcases h.2 with ⟨_, h0⟩ | ⟨g, cap, cur, hv, _⟩
  · omega
  · simp only [Value.slice.injEq] at hv
    obtain ⟨rfl, _, rfl⟩ := hv
    refine ⟨_, rfl, ?_⟩
    rw [add_own]
    exact (own_cell h (by simp [List.getElem?_map, List.getElem?_eq_getElem hi, List.getD_eq_getElem?_getD])).1

theorem rows_own {w : World} {base e n : Nat} {a : Option Addr} {c : Nat} {R : List FR} (h : w.ownsRow base e 1 (.slice a n c) n (R.map rowC)) (hs : ∀ r ∈ R, SpansAt w r.2.1 r.1.spans) : R.length = n ∧ RowsAt w a (R.map fun r => r.1.spans) := by
  have hl : R.length = n := by have := h.1; simpa using this
  refine ⟨hl, fun i hi => ?_⟩
  rw [List.length_map] at hi
  rcases h.2 with ⟨_, h0⟩ | ⟨g, cap, cur, hv, _⟩
  · omega
  · simp only [Value.slice.injEq] at hv
    obtain ⟨rfl, _, rfl⟩ := hv
    have hm : R.getD i default ∈ R := by
      rw [List.getD_eq_getElem?_getD, List.getElem?_eq_getElem hi]
      exact List.getElem_mem hi
    rw [getD_map (fun r : FR => r.1.spans) R i default [] hi]
    refine ⟨_, (R.getD i default).2.1, (R.getD i default).2.2, rfl, ?_, hs _ hm⟩
    rw [add_own]
    exact (own_cell h (u := rowC (R.getD i default)) (by simp [List.getElem?_map, List.getElem?_eq_getElem hi, List.getD_eq_getElem?_getD])).1

theorem files_own {w : World} {base e n : Nat} {a : Option Addr} {c : Nat} {K : List FR} {rest : List Value} (h : w.ownsRow base e 3 (.slice a n c) n (filesC K ++ rest)) (hs : ∀ r ∈ K, SpansAt w r.2.1 r.1.spans) : FilesAt w a (K.map (·.1)) := by
  intro i hi
  rw [List.length_map] at hi
  have hl := h.1
  rw [List.length_append, filesC_length] at hl
  rcases h.2 with ⟨_, h0⟩ | ⟨g, cap, cur, hv, _⟩
  · omega
  · simp only [Value.slice.injEq] at hv
    obtain ⟨rfl, _, rfl⟩ := hv
    have hm : K.getD i default ∈ K := by
      rw [List.getD_eq_getElem?_getD, List.getElem?_eq_getElem hi]
      exact List.getElem_mem hi
    obtain ⟨h0, h1, h2⟩ := filesC_at K i hi
    have hlt := filesC_length K
    have put : ∀ {j : Nat} {u : Value}, (filesC K)[j]? = some u → (filesC K ++ rest)[j]? = some u := fun {j u} hj => by
      rw [List.getElem?_append_left (List.getElem?_eq_some_iff.1 hj).1]
      exact hj
    rw [getD_map (fun r : FR => r.1) K i default default hi]
    refine ⟨_, rfl, ?_, ?_, (K.getD i default).2.1, (K.getD i default).2.2, ?_, hs _ hm⟩
    · rw [add_own]
      exact (own_cell h (put h0)).1
    · rw [add_own]
      exact (own_cell h (put h1)).1
    · rw [add_own]
      exact (own_cell h (put h2)).1

/-- The spans of files that a call has made. -/
def deepT (R : List FR) : Thing 0 where
  holds O w := (∀ r ∈ R, SpansAt w r.2.1 r.1.spans ∧ (r.1.spans ≠ [] → ∀ x, r.2.1 = some x → O x.block)) ∧ ∀ k, O k → k < w.heap.size
  lt := by
    rintro O w ⟨_, h⟩ k hk
    exact ⟨Nat.zero_le _, h k hk⟩
  keep := by
    rintro O w w' ⟨h1, h2⟩ hk
    have hlt : ∀ k, O k → k < w'.heap.size := fun k hO => by
      have := h2 k hO
      by_cases h : k < w'.heap.size
      · exact h
      · have e := hk k hO
        rw [Array.getElem?_eq_none (by omega), Array.getElem?_eq_getElem this] at e
        cases e
    refine ⟨fun r hr => ⟨?_, (h1 r hr).2⟩, hlt⟩
    intro i hi
    obtain ⟨x, hx, c0, c1⟩ := (h1 r hr).1 i hi
    have hO := (h1 r hr).2 (by rintro e; rw [e] at hi; simp at hi) x hx
    have hb : ∀ y : Addr, y.block = x.block → w'.cell? y = w.cell? y := fun y hy => by
      unfold World.cell?
      rw [hy, hk _ hO]
    exact ⟨x, hx, (hb _ (add_block x _)).trans c0, (hb ⟨(x.add (i * 2)).block, (x.add (i * 2)).off + 1, none⟩ (add_block x _)).trans c1⟩

section
variable {U : Nat → Prop} {w0 w w' : World} {l : List (Thing 0)}

/-- Two things become one. -/
theorem Crew.join {s t u : Thing 0} (h : Crew U w0 (l ++ [t]) w) (i : Nat) (hi : l[i]? = some s) (hu : ∀ O O2, s.holds O w → t.holds O2 w → u.holds (fun k => O k ∨ O2 k) w) : Crew U w0 (l.set i u) w := by
  obtain ⟨h1, Os, h2, h3⟩ := h
  have hil : i < l.length := (List.getElem?_eq_some_iff.1 hi).1
  have hii : (l ++ [t])[i]? = some s := by rw [List.getElem?_append_left hil]; exact hi
  have hll : (l ++ [t])[l.length]? = some t := by simp
  refine ⟨h1, fun j k => if j = i then Os i k ∨ Os l.length k else Os j k, fun j v hv => ?_, fun j j' hj hj' hne k hk hk' => ?_⟩
  · by_cases e : j = i
    · subst e
      rw [List.getElem?_set_self hil] at hv
      cases hv
      simp only [if_true]
      exact ⟨hu _ _ (h2 _ _ hii).1 (h2 _ _ hll).1, fun k hk => hk.elim ((h2 _ _ hii).2 k) ((h2 _ _ hll).2 k)⟩
    · rw [List.getElem?_set_ne (fun h => e h.symm)] at hv
      simp only [e, if_false]
      exact h2 j v (by rw [List.getElem?_append_left (List.getElem?_eq_some_iff.1 hv).1]; exact hv)
  · simp only [List.length_set] at hj hj'
    have big : ∀ i, i < l.length → i < (l ++ [t]).length := fun i hi => by simp; omega
    have last : l.length < (l ++ [t]).length := by simp
    by_cases e : j = i
    · subst e
      have e' : j' ≠ j := fun h => hne h.symm
      simp only [if_true, e', if_false] at hk hk'
      rcases hk with hk | hk
      · exact h3 _ _ (big _ hj) (big _ hj') hne k hk hk'
      · exact h3 _ _ last (big _ hj') (by omega) k hk hk'
    · by_cases e' : j' = i
      · subst e'
        simp only [if_true, e, if_false] at hk hk'
        rcases hk' with hk' | hk'
        · exact h3 _ _ (big _ hj) (big _ hj') hne k hk hk'
        · exact h3 _ _ (big _ hj) last (by omega) k hk hk'
      · simp only [e, e', if_false] at hk hk'
        exact h3 _ _ (big _ hj) (big _ hj') hne k hk hk'

theorem Crew.deep (h : Crew U w0 l w) : Crew U w0 (l ++ [deepT []]) w :=
  h.more (t := deepT []) ⟨fun _ => False, ⟨fun r hr => (by cases hr), fun _ hk => hk.elim⟩, Below.refl _ _, fun _ hk => hk.elim⟩

/-- One file more. -/
theorem Crew.deeper {R : List FR} {r : FR} (h : Crew U w0 l w) (i : Nat) (hi : l[i]? = some (deepT R)) (hf : Fresh (spT (rowC r) r.1.spans) w w') : Crew U w0 (l.set i (deepT (R ++ [r]))) w' := by
  refine (h.more hf).join i hi ?_
  rintro O O2 ⟨h1, h2⟩ ⟨ho, rfl⟩
  have hs := (spans_own (show w'.ownsRow 0 _ 2 (.slice r.2.1 r.1.spans.length r.2.2) r.1.spans.length (flatI r.1.spans) from ho)).2
  refine ⟨fun q hq => ?_, fun k hk => hk.elim (h2 k) (fun hk => ?_)⟩
  · rw [List.mem_append, List.mem_singleton] at hq
    rcases hq with hq | rfl
    · exact ⟨(h1 q hq).1, fun hne x hx => .inl ((h1 q hq).2 hne x hx)⟩
    · refine ⟨hs, fun hne x hx => .inr ?_⟩
      show (rowC q).ownBlock = some x.block
      rcases ho.2 with ⟨_, h0⟩ | ⟨g, cap, cur, hv, _⟩
      · exact absurd (List.length_eq_zero_iff.1 h0) hne
      · rw [rowC, Value.slice.injEq] at hv
        rw [hx] at hv
        obtain ⟨hv, _⟩ := hv
        cases hv
        rw [rowC, hx]
        rfl
  · exact (ho.lt k hk).2

theorem Crew.spans {R : List FR} (h : Crew U w0 l w) (i : Nat) (hi : l[i]? = some (deepT R)) : ∀ r ∈ R, SpansAt w r.2.1 r.1.spans := by
  obtain ⟨O, ⟨ho, _⟩, _⟩ := h.one hi
  exact fun r hr => (ho r hr).1

end

end Go.Proofs.YteellffkjjllgaaGreat
