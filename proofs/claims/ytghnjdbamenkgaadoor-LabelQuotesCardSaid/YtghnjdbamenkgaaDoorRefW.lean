/-
  What the reference's Unquote answers: the text of which the word is the quoted one, or that there is none. Condition: the word has at most 10000 bytes.
-/
import Derived.Test.YtghnjdbamenkgaaDoorRefU
namespace Go.Proofs.YtghnjdbamenkgaaDoor
open Go.RowKit

theorem step_one (u l p : List UInt8) (k : Nat) (hM : Rc1.MkO l p k) (h : l = Rc1.quoteF u) (hne : l ≠ []) : k ≠ 0 ∧ ∃ v, u = p ++ v ∧ l.drop k = Rc1.quoteF v := by
  match l, hne with
  | c :: rest, _ =>
    by_cases hc : c = 92
    · subst hc
      exact Rc1.step_mark u _ p k ⟨rest, rfl⟩ h hM.2
    · obtain ⟨rfl, rfl⟩ := hM.1 c rest hc rfl
      obtain ⟨v, h1, h2⟩ := Rc1.step_plain u rest c hc h
      exact ⟨by omega, v, by rw [h1]; rfl, h2⟩

theorem cells_one (l : List UInt8) : ∀ u ∈ Lib.byteCells l, u.oneCell' = true := by
  intro u hu
  simp only [Lib.byteCells, List.mem_map] at hu
  obtain ⟨b, -, rfl⟩ := hu
  rfl

set_option maxHeartbeats 4000000 in
set_option maxRecDepth 100000 in
theorem rUnquote_any (s : ByteArray) (hs : s.size ≤ 10000) (w : World) :
    Calls Tryd.prog 23 #[.string s] w fun e w' => e = .returned (.tuple #[.string ⟨(Rc1.unq s.data.toList).1.toArray⟩, .int .i64 (Rc1.unq s.data.toList).2]) ∧ Below w.heap.size w w' := by
  have hB := Below.refl w.heap.size w
  by_cases hS : s = ⟨#[92, 95]⟩
  · have HU := Lib.hid (show Rc1.unq s.data.toList = ([], 0) by rw [hS]; exact Rc1.unq_some (t := []) rfl)
    subst hS
    go_enter Tryd.func23, Tryd.ntmps23
    go_wp2
    go_ret2
    rw [HU.out]
    exact ⟨rfl, hB⟩
  · have hS2 : (s.toList == [92, 95]) = false := by rw [ByteArray.toList_eq, beq_eq_false_iff_ne]; intro e; exact hS (of_list e)
    have HNS := Lib.hid (show ∀ t, Rc1.quote t = s.data.toList → t ≠ [] ∧ Rc1.quoteF t = s.data.toList by
      intro t h
      have hne : t ≠ [] := by
        rintro rfl
        exact hS (of_list (h.symm.trans rfl))
      refine ⟨hne, ?_⟩
      unfold Rc1.quote at h
      rwa [if_neg hne] at h)
    obtain ⟨i0, hi, hz0, hz1, hz2⟩ := info_parts infoB
    clear hS
    go_enter Tryd.func23, Tryd.ntmps23
    go_wp2
    go_loopw [4, 5, 6, 7] (fun v left _ _ wr => ∃ (t : ByteArray) (k : Nat) (acc : List UInt8), left = .string t ∧ k ≤ s.size ∧ t.size = s.size - k ∧ Hid (t.data.toList = s.data.toList.drop k) ∧ acc.length ≤ 4 * k ∧ wr.ownsRowF w.heap.size 5 1 v acc.length (Lib.byteCells acc) ∧ Reading s.data.toList k acc ∧ Below w.heap.size w wr) (fun _ left _ _ _ => szOf left)
    case atStart => exact ⟨s, 0, [], rfl, Nat.zero_le _, rfl, rfl, by simp, World.ownsRowF_of (World.ownsRow_nil w _ _ _), fun t _ h => ⟨t, rfl, h.symm⟩, hB⟩
    case round =>
      obtain ⟨t, k, acc, rfl, hk, htz, ht, hal, hown, hR, hbr⟩ := hrel
      have HOWN := Lib.hid hown
      have HR := Lib.hid hR
      have HTZ := Lib.hid htz
      have htl : t.size ≤ s.size := by omega
      have hie := isEmpty_of t
      have hbz := hbr.size
      clear hB hown hR hS2 htz
      by_cases hz : t.size = 0
      · rw [decide_eq_true hz] at hie
        have HD := Lib.hid (show s.data.toList.drop k = [] by rw [← ht.out]; exact nil_of t hz)
        have FIN := Lib.hid (show ∀ t0, Rc1.quote t0 = s.data.toList → t0 ≠ [] ∧ t0 = acc by
          intro t0 h0
          obtain ⟨hne, hq⟩ := HNS.out t0 h0
          obtain ⟨u, hu1, hu2⟩ := HR.out t0 hne hq
          rw [HD.out] at hu2
          exact ⟨hne, by rw [hu1, (Rc1.quoteF_nil_iff u).1 hu2.symm]; simp⟩)
        clear hz
        by_cases ha : acc.length = 0
        · have HN := Lib.hid (Rc1.unq_none (l := s.data.toList) (fun ⟨t0, h0⟩ => by
            have := FIN.out t0 h0
            rw [this.2, List.length_eq_zero_iff] at *
            exact this.1 ha))
          have HA := Lib.hid ha
          have ho := HOWN.out
          rw [ha] at ho
          rcases ho.2 with ⟨rfl, -⟩ | ⟨g, cap, cur, fz, rfl, -⟩
          all_goals
            clear ho ha
            go_wp2
            go_ret2
            rw [HN.out]
            exact ⟨rfl, hbr⟩
        · have hbk := own_back (w := w) (wr := wr) HOWN.out
          have hcs : (⟨acc.toArray⟩ : ByteArray).size ≤ 40000 := by rw [size_mk]; omega
          have hQ := rQuote_any ⟨acc.toArray⟩ (by omega) wr
          have hal0 : ((acc.length : Int) == 0) = false := by rw [beq_eq_false_iff_ne]; omega
          have hal1 : (acc.length == 0) = false := by rw [beq_eq_false_iff_ne]; exact ha
          rcases HOWN.out.2 with ⟨rfl, h0⟩ | ⟨g, cap, cur, fz, rfl, -⟩
          · exact absurd h0 ha
          · by_cases hq : Rc1.quote acc = s.data.toList
            · have HS := Lib.hid (Rc1.unq_some hq)
              rw [show Rc1.quote (⟨acc.toArray⟩ : ByteArray).data.toList = s.data.toList from hq, show (⟨s.data.toList.toArray⟩ : ByteArray) = s from rfl] at hQ
              have HQ := Lib.hid hQ
              clear hQ hq ha
              go_wp2_with fail
              refine (HQ.out).mono ?_
              rintro e w2 ⟨rfl, hb2⟩
              have hbk2 := own_back (w := w) (wr := w2) (own_kept HOWN.out hb2)
              go_wp2
              go_ret2
              rw [HS.out]
              exact ⟨rfl, below_trans hbr hb2⟩
            · have HN := Lib.hid (Rc1.unq_none (l := s.data.toList) (fun ⟨t0, h0⟩ => by
                have := (FIN.out t0 h0).2
                rw [this] at h0; exact hq h0))
              obtain ⟨q, hqq⟩ : ∃ q : ByteArray, q = ⟨(Rc1.quote (⟨acc.toArray⟩ : ByteArray).data.toList).toArray⟩ := ⟨_, rfl⟩
              rw [← hqq] at hQ
              have hne : (q.toList == s.toList) = false := by
                rw [beq_eq_false_iff_ne, ByteArray.toList_eq, ByteArray.toList_eq]
                intro e
                apply hq
                rw [← e, hqq]
              have hne2 : (q.toList != s.toList) = true := by
                rw [bne, hne]; rfl
              have HQ := Lib.hid hQ
              clear hQ hq ha hqq
              go_wp2_with fail
              refine (HQ.out).mono ?_
              rintro e w2 ⟨rfl, hb2⟩
              go_wp2
              go_ret2
              rw [HN.out]
              exact ⟨rfl, below_trans hbr hb2⟩
      · rw [decide_eq_false hz] at hie
        have h0 : 0 < t.size := by omega
        have HO := Lib.hid (fun w => one_any t h0 (by omega) w)
        have HNE := Lib.hid (show t.data.toList ≠ [] by intro e; have := congrArg List.length e; rw [len_data] at this; exact hz this)
        clear hz
        go_wp2_with fail
        refine (HO.out _).mono ?_
        rintro e w2 ⟨v', kk, p, rfl, hkk, hp, hown', hvv, hM, hb2⟩
        rw [len_data] at hkk
        have HM := Lib.hid hM
        have HOW' := Lib.hid hown'
        have HOWN2 := Lib.hid (own_kept HOWN.out hb2)
        have hbr2 := below_trans hbr hb2
        have hbz2 := hb2.size
        clear hM hown'
        by_cases hk0 : kk = 0
        · have HN := Lib.hid (Rc1.unq_none (l := s.data.toList) (fun ⟨t0, ht0⟩ => by
            obtain ⟨hne, hq⟩ := HNS.out t0 ht0
            obtain ⟨u, -, hu⟩ := HR.out t0 hne hq
            exact (step_one u _ p kk HM.out (ht.out.trans hu) HNE.out).1 hk0))
          have e0 : ((kk : Int) == 0) = true := by rw [hk0]; rfl
          clear hk0 hvv
          go_wp2
          go_ret2
          rw [HN.out]
          exact ⟨rfl, hbr2⟩
        · have e0 : ((kk : Int) == 0) = false := by rw [beq_eq_false_iff_ne]; omega
          obtain ⟨g, cap, rfl⟩ := hvv hk0
          have hcells := HOW'.out.cells (g := g) rfl
          have HCE := Lib.hid hcells
          have hkt : kk ≤ t.size := hkk
          clear hcells
          go_wp2_with (at_builtin; refine wpList_append_ownF _ rfl _ _ 36 rfl w.heap.size 5 i0 (.int .u8 0) 1 1 Tryd.underlying36 hi hz0 hz1 hz2 rfl (by decide) _ _ _ rfl HOWN2.out ⟨g, 0, none⟩ p.length cap (Lib.byteCells p) rfl (by rw [Lib.byteCells_length]; simp) HCE.out (cells_one p) (by unfold maxLen; omega) (by omega) (by omega) ?_; intro v2 w3 hown2 hgrow _)
          go_roundw
          case rel =>
            refine ⟨_, k + kk, acc ++ p, rfl, by have := HTZ.out; omega, ?_, ?_, by rw [List.length_append]; omega, ?_, ?_, ?_⟩
            · have := HTZ.out
              rw [← len_data, extract_list, List.length_drop, len_data]; omega
            · show _ = _
              rw [extract_list, ht.out, List.drop_drop]
            · rw [Lib.byteCells_append, List.length_append]
              exact hown2
            · intro t0 hne hq
              obtain ⟨u, hu1, hu2⟩ := HR.out t0 hne hq
              obtain ⟨-, v, hv1, hv2⟩ := step_one u _ p kk HM.out (ht.out.trans hu2) HNE.out
              refine ⟨v, by rw [hu1, hv1, List.append_assoc], ?_⟩
              rw [← hv2, ht.out, List.drop_drop]
            · exact hbr2.grown hgrow (by omega) (fun q hq => (HOWN2.out.lt q hq).1)
          case measure => simp [szOf]; omega

end Go.Proofs.YtghnjdbamenkgaaDoor
