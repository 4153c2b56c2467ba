/-
  The reference of layer 5: what Right and Take answer. Conditions: as each theorem states them.
-/
import Derived.Test.YtnknojkihjpjkaaHsSame
namespace Go.Rc5

theorem right_iff {N : List Sp} {n : Nat} (hf : ∀ s ∈ N, s.1 + s.2 ≤ n) : (N.Pairwise Apart ∧ castS (rows (memB N) n) = castS N) ↔ Ch 0 N := by
  constructor
  · rintro ⟨_, h⟩
    rw [← castS_inj h]
    exact (rows_ok _ _).ch
  · intro h
    refine ⟨h.apart, ?_⟩
    rw [rows_mem h]
    intro x hx
    rw [memB_iff] at hx
    obtain ⟨s, hs, h1, h2⟩ := hx
    have := hf s hs
    omega

theorem Ch.take {lo : Nat} {l : List Sp} (h : Ch lo l) (k : Nat) : Ch lo (l.take k) := by
  induction l generalizing lo k with
  | nil => simp; trivial
  | cons s r ih =>
    cases k with
    | zero => trivial
    | succ k => exact ⟨h.1, h.2.1, ih h.2.2 k⟩

/-- What lies behind the k-th span begins behind it. -/
theorem Ch.drop_ge {lo : Nat} {l : List Sp} (h : Ch lo l) (k : Nat) (hk : k < l.length) : Ch ((l.getD k (0, 0)).1 + (l.getD k (0, 0)).2 + 1) (l.drop (k + 1)) := by
  induction l generalizing lo k with
  | nil => simp at hk
  | cons s r ih =>
    cases k with
    | zero => simpa using h.2.2
    | succ k => simpa using ih h.2.2 k (by simpa using hk)

theorem Ch.ahead {lo : Nat} {l : List Sp} (h : Ch lo l) (k : Nat) (hk : k < l.length) : ∀ t ∈ l.take k, t.1 + t.2 + 1 ≤ (l.getD k (0, 0)).1 := by
  induction l generalizing lo k with
  | nil => simp at hk
  | cons s r ih =>
    cases k with
    | zero => intro t ht; simp at ht
    | succ k =>
      intro t ht
      rw [List.take_succ_cons, List.mem_cons] at ht
      have hk' : k < r.length := by simpa using hk
      rcases ht with rfl | ht
      · have hm : memB r (r.getD k (0, 0)).1 = true := by
          rw [memB_iff]
          refine ⟨r.getD k (0, 0), ?_, Nat.le_refl _, ?_⟩
          · rw [List.getD_eq_getElem?_getD, List.getElem?_eq_getElem hk']
            exact List.getElem_mem _
          · have := h.2.2.some (r.getD k (0, 0)) (by rw [List.getD_eq_getElem?_getD, List.getElem?_eq_getElem hk']; exact List.getElem_mem _)
            omega
        have := h.2.2.ge hm
        simpa using this
      · simpa using ih h.2.2 k hk' t ht

/-- How many sectors lie ahead of y, which is in the k-th span, or right behind it. -/
theorem cnt_at {l : List Sp} (h : Ch 0 l) (k y : Nat) (hk : k < l.length) (h1 : (l.getD k (0, 0)).1 ≤ y) (h2 : y ≤ (l.getD k (0, 0)).1 + (l.getD k (0, 0)).2) :
    cnt (memB l) y = total (l.take k) + (y - (l.getD k (0, 0)).1) := by
  have had := h.ahead k hk
  have hdr := h.drop_ge k hk
  have hsp : l = l.take k ++ [l.getD k (0, 0)] ++ l.drop (k + 1) := by
    rw [← take_snoc l k (0, 0) hk, List.take_append_drop]
  have hct := h.take k
  generalize hs : l.getD k (0, 0) = s at *
  obtain ⟨s1, s2⟩ := s
  dsimp only at h1 h2 had hdr
  have e : ∀ x, x < y → memB l x = memB (l.take k ++ [(s1, y - s1)]) x := by
    intro x hx
    conv => lhs; rw [hsp]
    rw [memB_append, memB_append, memB_append]
    have n1 : memB (l.drop (k + 1)) x = false := by
      rw [Bool.eq_false_iff]
      intro e
      have := hdr.ge e
      omega
    have n2 : memB [(s1, s2)] x = memB [(s1, y - s1)] x := by
      simp only [memB, List.any_cons, List.any_nil, Bool.or_false]
      rw [Bool.eq_iff_iff, inB_iff, inB_iff]
      dsimp only
      omega
    rw [n1, n2, Bool.or_false]
  rw [cnt_congr e, ← total_cnt (l := l.take k ++ [(s1, y - s1)]) (n := y)]
  · rw [total_append, total_cons, total_nil]
    rfl
  · rw [List.pairwise_append]
    refine ⟨hct.apart, List.pairwise_singleton _ _, fun t ht u hu x hx => ?_⟩
    rw [List.mem_singleton] at hu
    subst hu
    rw [Bool.eq_false_iff]
    intro e
    have a1 := (inB_iff _ _).1 hx
    have a2 := (inB_iff _ _).1 e
    have a3 := had t ht
    dsimp only at a2
    omega
  · intro t ht
    rw [List.mem_append, List.mem_singleton] at ht
    rcases ht with ht | rfl
    · have := had t ht
      omega
    · show s1 + (y - s1) ≤ y
      omega

/-- The n lowest sectors of a row, and the others. -/
def oneB (N : List Sp) (n x : Nat) : Bool := memB N x && decide (cnt (memB N) x < n)
def twoB (N : List Sp) (n x : Nat) : Bool := memB N x && !decide (cnt (memB N) x < n)

end Go.Rc5
namespace Go.Proofs.Ytnknojkihjpjkaa
open Go.RowKit Go.Rc5

set_option maxHeartbeats 2000000 in
theorem rright_bad (L : List SpI) (a : Option Addr) (c len : Nat) (size : Int) (w : World) (h : SpansAt w a L) (hl : L.length = len) (hlen : len ≤ 100000) (hb : Bad L size) :
    Calls Try.prog 32 #[.slice a len c, .int .i64 size] w fun e w' => e = .returned (.bool false) ∧ Below w.heap.size w w' := by
  have HM := Lib.hid (rnorm_bad L a c len size w h hl hlen hb)
  clear h hb hl
  go_enter Try.func32, Try.ntmps32
  go_wp2_with fail
  refine HM.out.mono ?_
  rintro e w1 ⟨rfl, hb1⟩
  go_wp2
  go_ret
  exact ⟨rfl, hb1⟩

def YesIf (p : Prop) (w : World) (e : Ending) (w' : World) : Prop := ∃ f : Bool, e = .returned (.bool f) ∧ (f = true ↔ p) ∧ Below w.heap.size w w'

set_option maxHeartbeats 4000000 in
theorem rright_good (L : List SpI) (N : List Sp) (n : Nat) (a : Option Addr) (c len : Nat) (w : World) (h : SpansAt w a L) (hl : L.length = len) (hlen : len ≤ 100000) (hg : Fits L N n) :
    Calls Try.prog 32 #[.slice a len c, .int .i64 n] w (YesIf (Ch 0 N) w) := by
  have HM := Lib.hid (rnorm_good L N n a c len w h hl hlen hg)
  have HS := Lib.hid (fun W (hb : Below w.heap.size w W) => SpansAt.below h hb)
  have HL := Lib.hid hl
  have HIFF := Lib.hid (right_iff hg.fit)
  have HEQ := Lib.hid hg.eq
  clear h hl hg
  go_enter Try.func32, Try.ntmps32
  go_wp2_with fail
  refine HM.out.mono ?_
  rintro e w1 (⟨rfl, hp, hb1⟩ | ⟨v, rfl, hp, hf⟩)
  · have HP := Lib.hid hp
    clear hp HM
    go_wp2
    go_ret
    exact ⟨false, rfl, by rw [← HIFF.out]; exact ⟨fun e => (by cases e), fun e => absurd e.1 HP.out⟩, hb1⟩
  · have HP := Lib.hid hp
    have hC := (Crew.start w).more hf
    obtain ⟨a1, c1, rfl⟩ := hC.slice 0 rfl
    obtain ⟨_, hat⟩ := spans_own (hC.own 0 rfl)
    have HB1 := Lib.hid hf.bel
    have HT := Lib.hid (fun W (hb : Below w1.heap.size w1 W) => SpansAt.below hat hb)
    have HLR := Lib.hid (rows_len (memB N) n)
    clear hp hf HM hC hat
    obtain ⟨R, hR⟩ : ∃ R, R = castS (rows (memB N) n) := ⟨_, rfl⟩
    rw [← hR] at HT HIFF ⊢
    rw [← HEQ.out] at HIFF
    obtain ⟨q, hq⟩ : ∃ q, R.length = q := ⟨_, rfl⟩
    rw [hq]
    have HQ := Lib.hid hq
    clear hR hq
    by_cases he : q = len
    · subst he
      go_wp2
      go_loopw [7] (fun i wr => ∃ k : Nat, i = .int .i64 k ∧ k ≤ q ∧ (∀ j, j < k → L.getD j (0, 0) = R.getD j (0, 0)) ∧ Below w1.heap.size w1 wr) (fun i _ => (q - intOf i).toNat)
      case atStart => exact ⟨0, rfl, Nat.zero_le _, fun j hj => absurd hj (Nat.not_lt_zero _), Below.refl _ _⟩
      case round =>
        obtain ⟨k, rfl, hk, hall, hBw⟩ := hrel
        have HAL := Lib.hid hall
        have HBW := Lib.hid (HB1.out.trans (hBw.mono HB1.out.size))
        clear hall
        by_cases hlt : k < q
        · have hltI : (k : Int) < q := by omega
          obtain ⟨x, rfl, c0, c1⟩ := HS.out wr HBW.out k (by rw [HL.out]; exact hlt)
          obtain ⟨y, rfl, d0, d1⟩ := HT.out wr hBw k (by rw [HQ.out]; exact hlt)
          by_cases hs : L.getD k (0, 0) = R.getD k (0, 0)
          · have HS2 := Lib.hid hs
            rw [← hs] at d0 d1
            clear hs
            generalize L.getD k (0, 0) = s at c0 c1 d0 d1
            obtain ⟨s1, s2⟩ := s
            dsimp only at c0 c1 d0 d1
            go_wp2_with fail
            go_quiet (fail)
            have HBQ := Lib.hid (below_drewN hBw nq)
            clear c0 c1 d0 d1
            generalize wr.drewN nq = wq at *
            go_wp2
            refine ⟨⟨k + 1, by go_num, by omega, fun j hj => ?_, HBQ.out⟩, by simp [intOf]; omega⟩
            by_cases e : j = k
            · subst e
              exact HS2.out
            · exact HAL.out j (by omega)
          · have HS2 := Lib.hid hs
            clear hs
            generalize hs : L.getD k (0, 0) = s at *
            generalize ht : R.getD k (0, 0) = t at *
            have HNE : Hid (¬ R = L) := fun e => HS2.out (by rw [← hs, ← ht, e])
            obtain ⟨s1, s2⟩ := s
            obtain ⟨t1, t2⟩ := t
            dsimp only at c0 c1 d0 d1
            clear hs ht
            by_cases h1 : s1 = t1
            · subst h1
              have h2 : (s2 == t2) = false := by
                rw [beq_eq_false_iff_ne]
                intro e
                exact HS2.out (by rw [e])
              clear HS2
              go_wp2_with fail
              go_quiet (fail)
              have HBQ := Lib.hid (below_drewN HBW.out nq)
              clear c0 c1 d0 d1
              generalize wr.drewN nq = wq at *
              go_wp2
              go_ret
              exact ⟨false, rfl, by rw [← HIFF.out]; exact ⟨fun e => (by cases e), fun e => absurd e.2 HNE.out⟩, HBQ.out⟩
            · have h1B : (s1 == t1) = false := by simpa using h1
              clear h1 HS2
              go_wp2_with fail
              go_quiet (fail)
              have HBQ := Lib.hid (below_drewN HBW.out nq)
              clear c0 c1 d0 d1
              generalize wr.drewN nq = wq at *
              go_wp2
              go_ret
              exact ⟨false, rfl, by rw [← HIFF.out]; exact ⟨fun e => (by cases e), fun e => absurd e.2 HNE.out⟩, HBQ.out⟩
        · have hltI : ¬ (k : Int) < q := by omega
          obtain rfl : k = q := by omega
          go_wp2
          go_ret
          have e : R = L := (list_same (HL.out.trans HQ.out.symm) (fun j hj => HAL.out j (by have := HL.out; omega))).symm
          exact ⟨true, rfl, by rw [← HIFF.out]; exact ⟨fun _ => ⟨HP.out, e⟩, fun _ => rfl⟩, HBW.out⟩
    · have heI : ((q : Int) != len) = true := by simp; omega
      have HNE : Hid (¬ R = L) := fun e => he (by rw [← HQ.out, ← HL.out, e])
      clear he
      go_wp2
      go_ret
      exact ⟨false, rfl, by rw [← HIFF.out]; exact ⟨fun e => (by cases e), fun e => absurd e.2 HNE.out⟩, HB1.out⟩

end Go.Proofs.Ytnknojkihjpjkaa
