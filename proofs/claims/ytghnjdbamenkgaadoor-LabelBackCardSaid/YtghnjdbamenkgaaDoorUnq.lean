/-
  What label.read and label.Unquote answer: the text of which the word is the quoted one, or that there is none. Conditions: the word has at most 10000 bytes; the library's tables and error variables start as the program lays them (Tab, Errs).
-/
import Derived.Test.YtghnjdbamenkgaaDoorMark
import Derived.Test.YtghnjdbamenkgaaDoorMathJ
namespace Go.Proofs.YtghnjdbamenkgaaDoor
open Go.RowKit

def PostR (l : List UInt8) (w : World) (e : Ending) (w' : World) : Prop :=
  ∃ (x : ByteArray) (ok : Bool), e = .returned (.tuple #[.string x, .bool ok]) ∧ x.size ≤ 4 * l.length ∧ (∀ t, Rc1.quote t = l → ok = true ∧ x.data.toList = t) ∧ Below w.heap.size w w'

theorem own_kept {B : Nat} {e : TypeId} {v : Value} {n : Nat} {xs : List Value} {W W' : World} (h : W.ownsRowF B e 1 v n xs) (hb : Below W.heap.size W W') : W'.ownsRowF B e 1 v n xs := by
  have old : ∀ k o, W.heap[k]? = some o → W'.heap[k]? = some o := fun k o hk => by
    rw [hb.block k ((Array.getElem?_eq_some_iff.1 hk).1)]; exact hk
  refine ⟨h.1, ?_⟩
  rcases h.2 with hn | ⟨g, cap, cur, fz, hv, hbg, hg, rest⟩
  · exact .inl hn
  · exact .inr ⟨g, cap, cur, fz, hv, hbg, old _ _ hg, rest⟩

/-- What is known while a word is read: k of its bytes stand for acc. -/
def Reading (l : List UInt8) (k : Nat) (acc : List UInt8) : Prop := ∀ t, t ≠ [] → Rc1.quoteF t = l → ∃ u, t = acc ++ u ∧ l.drop k = Rc1.quoteF u

set_option maxHeartbeats 4000000 in
set_option maxRecDepth 100000 in
theorem read_any (s : ByteArray) (hs : s.size ≤ 10000) (w : World) (hE : Errs w) :
    Calls Tryd.prog 28 #[.string s] w (PostR s.data.toList w) := by
  have hB := Below.refl w.heap.size w
  have HE := Lib.hid hE
  clear hE
  by_cases hS : s = ⟨#[92, 95]⟩
  · subst hS
    go_enter Tryd.func28, Tryd.ntmps28
    go_wp2
    go_ret2
    exact ⟨⟨#[]⟩, true, rfl, by decide, fun t h => ⟨rfl, (Rc1.quote_under t h).symm⟩, hB⟩
  · have hS2 : (s.toList == [92, 95]) = false := by rw [ByteArray.toList_eq, beq_eq_false_iff_ne]; intro e; exact hS (of_list e)
    have HNS := Lib.hid (show ∀ t, Rc1.quote t = s.data.toList → t ≠ [] ∧ Rc1.quoteF t = s.data.toList by
      intro t h
      have hne : t ≠ [] := by
        rintro rfl
        exact hS (of_list (h.symm.trans rfl))
      refine ⟨hne, ?_⟩
      unfold Rc1.quote at h
      rwa [if_neg hne] at h)
    obtain ⟨i0, hi, hz0, hz1, hz2⟩ := info_parts infoB
    clear hS
    go_enter Tryd.func28, Tryd.ntmps28
    go_wp2
    go_loopw [4, 5, 6, 7] (fun v i _ _ wr => ∃ (k : Nat) (acc : List UInt8), k ≤ s.size ∧ i = .int .i64 k ∧ acc.length ≤ 4 * k ∧ wr.ownsRowF w.heap.size 5 1 v acc.length (Lib.byteCells acc) ∧ Reading s.data.toList k acc ∧ Below w.heap.size w wr) (fun _ i _ _ _ => s.size - (intOf i).toNat)
    case atStart => exact ⟨0, [], Nat.zero_le _, rfl, by simp, World.ownsRowF_of (World.ownsRow_nil w _ _ _), fun t _ h => ⟨t, rfl, h.symm⟩, hB⟩
    case round =>
      obtain ⟨k, acc, hk, rfl, hal, hown, hR, hbr⟩ := hrel
      have HOWN := Lib.hid hown
      have HR := Lib.hid hR
      have hbz := hbr.size
      clear hB hown hR hS2
      by_cases hlt : k < s.size
      · have hlt' : (k : Int) < s.size := by omega
        have hdrop : s.data.toList.drop k = (s[k]'hlt) :: s.data.toList.drop (k + 1) := List.drop_eq_getElem_cons (by rw [len_data]; exact hlt)
        have HD := Lib.hid hdrop
        have hb256 : (s[k]'hlt).toNat < 256 := UInt8.toNat_lt _
        clear hdrop
        by_cases hc : (s[k]'hlt).toNat = 92
        · have hc1 : (((s[k]'hlt).toNat : Int) != 92) = false := by rw [bne_eq_false_iff_eq]; omega
          have HC := Lib.hid (show (s[k]'hlt) = 92 from UInt8.toNat_inj.1 hc)
          have HM := Lib.hid (fun w hE => readMark_any (s.extract k s.size) (by rw [← len_data, extract_list, List.length_drop, len_data]; omega) w hE)
          have HXL := Lib.hid (extract_list s k)
          clear hc
          go_wp2_with fail
          refine (HM.out _ (HE.out.next hbr)).mono ?_
          rintro e w2 ⟨p, kk, rfl, hkk, hp, hMk, hb2⟩
          rw [HXL.out] at hMk hkk
          rw [drop_size] at hkk
          have HMK := Lib.hid hMk
          have hbz2 := hb2.size
          have HOWN2 := Lib.hid (own_kept HOWN.out hb2)
          have hbr2 := below_trans hbr hb2
          clear hMk
          by_cases h0 : kk = 0
          · have HK0 := Lib.hid h0
            have h0' : ((kk : Int) == 0) = true := by rw [h0]; rfl
            clear h0
            go_wp2
            go_ret2
            refine ⟨⟨#[]⟩, false, rfl, Nat.zero_le _, fun t ht => ?_, hbr2⟩
            exfalso
            obtain ⟨hne, hq⟩ := HNS.out t ht
            obtain ⟨u, -, hu⟩ := HR.out t hne hq
            exact (Rc1.step_mark u _ _ _ ⟨_, by rw [HD.out, HC.out]⟩ hu HMK.out).1 HK0.out
          · have h0' : ((kk : Int) == 0) = false := by rw [beq_eq_false_iff_ne]; omega
            have hkk' : k + kk ≤ s.size := by omega
            go_wp2_with (at_builtin; refine Lib.wpList_append_own_stringF _ rfl _ _ 36 9 rfl w.heap.size 5 i0 Tryd.underlying36 Tryd.underlying9 hi hz0 hz1 hz2 _ _ _ rfl HOWN2.out p rfl (by unfold maxLen; omega) (by omega) (by omega) ?_; intro v' w3 hown' hgrow _)
            go_roundw
            case rel =>
              refine ⟨k + kk, acc ++ p.data.toList, hkk', by go_num, by rw [List.length_append, len_data]; omega, ?_, ?_, ?_⟩
              · rw [Lib.byteCells_append, List.length_append, len_data]
                exact hown'
              · intro t hne hq
                obtain ⟨u, hu1, hu2⟩ := HR.out t hne hq
                obtain ⟨-, v, hv1, hv2⟩ := Rc1.step_mark u _ _ _ ⟨_, by rw [HD.out, HC.out]⟩ hu2 HMK.out
                refine ⟨v, by rw [hu1, hv1, List.append_assoc], ?_⟩
                rw [← hv2, List.drop_drop]
              · exact hbr2.grown hgrow (by omega) (fun g hg => (HOWN2.out.lt g hg).1)
            case measure => simp [intOf]; omega
        · have hc1 : (((s[k]'hlt).toNat : Int) != 92) = true := by rw [bne_iff_ne]; omega
          have HC := Lib.hid (show (s[k]'hlt) ≠ 92 by intro e; rw [e] at hc; exact hc rfl)
          clear hc
          go_wp2_with (at_builtin; refine wpList_append_ownF _ rfl _ _ 36 rfl w.heap.size 5 i0 (.int .u8 0) 1 1 Tryd.underlying36 hi hz0 hz1 hz2 rfl (by decide) _ _ _ rfl (HOWN.out.alloc _) ⟨wr.heap.size, 0, none⟩ 1 1 [.int .u8 ((s[k]'hlt).toNat : Int)] rfl rfl (cell_one_new _ _ _) (fun u hu => by simp at hu; subst hu; rfl) (by unfold maxLen; omega) (by omega) (by simp; omega) ?_; intro v' w2 hown' hgrow _)
          go_roundw
          case rel =>
            refine ⟨k + 1, acc ++ [s[k]'hlt], by omega, by go_num, by rw [List.length_append]; simp; omega, ?_, ?_, ?_⟩
            · rw [Lib.byteCells_append, List.length_append]
              exact hown'
            · intro t hne hq
              obtain ⟨u, hu1, hu2⟩ := HR.out t hne hq
              rw [HD.out] at hu2
              obtain ⟨v, hv1, hv2⟩ := Rc1.step_plain u _ _ HC.out hu2
              exact ⟨v, by rw [hu1, hv1]; simp, hv2⟩
            · exact (hbr.alloc (by omega) _).grown hgrow (by simp; omega) (fun g hg => (HOWN.out.lt g hg).1)
          case measure => simp [intOf]; omega
      · have hbk := own_back (w := w) (wr := wr) HOWN.out
        have HKE := Lib.hid (show s.data.toList.drop k = [] from drop_end s k hlt)
        go_wp2
        go_ret2
        refine ⟨⟨acc.toArray⟩, true, rfl, by rw [size_mk, len_data]; omega, fun t ht => ⟨rfl, ?_⟩, hbr⟩
        obtain ⟨hne, hq⟩ := HNS.out t ht
        obtain ⟨u, hu1, hu2⟩ := HR.out t hne hq
        rw [HKE.out] at hu2
        rw [hu1, (Rc1.quoteF_nil_iff u).1 hu2.symm]; simp

theorem str_eq {a b : ByteArray} (h : a.data.toList = b.data.toList) : a = b := by
  rw [of_list (a := a) h, of_list (a := b) rfl]

set_option maxHeartbeats 1000000 in
theorem Unquote_any (s : ByteArray) (hs : s.size ≤ 10000) (w : World) (hT : Tab w) (hE : Errs w) :
    Calls Tryd.prog 22 #[.string s] w fun e w' => e = .returned (.tuple #[.string ⟨(Rc1.unq s.data.toList).1.toArray⟩, .int .i64 (Rc1.unq s.data.toList).2]) ∧ Below w.heap.size w w' := by
  have HR := Lib.hid (read_any s hs)
  have HE := Lib.hid hE
  have HT := Lib.hid hT
  clear hE hT
  go_enter Tryd.func22, Tryd.ntmps22
  go_wp2_with fail
  refine (HR.out _ HE.out).mono ?_
  rintro e w1 ⟨x, ok, rfl, hx, hU, hb1⟩
  rw [len_data] at hx
  have HU := Lib.hid hU
  clear hU
  cases ok with
  | false =>
    have HN := Lib.hid (Rc1.unq_none (l := s.data.toList) (fun ⟨t, h⟩ => by have := (HU.out t h).1; cases this))
    go_wp2
    go_ret2
    rw [HN.out]
    exact ⟨rfl, hb1⟩
  | true =>
    have HQ := Lib.hid (Quote_any x (by omega) w1 (tab_next HT.out hb1))
    by_cases hq : Rc1.quote x.data.toList = s.data.toList
    · have HS := Lib.hid (Rc1.unq_some hq)
      have hQ := HQ.out
      rw [hq, show (⟨s.data.toList.toArray⟩ : ByteArray) = s from rfl] at hQ
      have HQ2 := Lib.hid hQ
      clear hQ hq
      go_wp2_with (go_at_call 24; ((with_reducible refine (HQ2.out).mono ?_)); rintro e w2 ⟨rfl, hb2⟩)
      go_ret2
      rw [HS.out]
      exact ⟨rfl, below_trans hb1 hb2⟩
    · have HN := Lib.hid (Rc1.unq_none (l := s.data.toList) (fun ⟨t, h⟩ => by
        have := (HU.out t h).2
        rw [this] at hq; exact hq h))
      have hQ := HQ.out
      obtain ⟨q, hqq⟩ : ∃ q : ByteArray, q = ⟨(Rc1.quote x.data.toList).toArray⟩ := ⟨_, rfl⟩
      rw [← hqq] at hQ
      have hne : (q.toList == s.toList) = false := by
        rw [beq_eq_false_iff_ne, ByteArray.toList_eq, ByteArray.toList_eq]
        intro e
        apply hq
        rw [← e, hqq]
      have hne2 : (q.toList != s.toList) = true := by
        rw [bne, hne]; rfl
      have HQ2 := Lib.hid hQ
      clear hQ hq hqq
      go_wp2_with (go_at_call 24; ((with_reducible refine (HQ2.out).mono ?_)); rintro e w2 ⟨rfl, hb2⟩)
      go_ret2
      rw [HN.out]
      exact ⟨rfl, below_trans hb1 hb2⟩

end Go.Proofs.YtghnjdbamenkgaaDoor
