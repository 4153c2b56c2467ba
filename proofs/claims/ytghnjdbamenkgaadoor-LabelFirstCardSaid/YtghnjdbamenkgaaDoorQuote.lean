/-
  What label.wrong, label.quoteRune and label.Quote answer: the quoted word of a text, rune by rune. Conditions: the text has at most 2^40 bytes; the library's table bears its number at place 15 (Tab).
-/
import Derived.Test.YtghnjdbamenkgaaDoorMathQ
import Derived.Test.YtghnjdbamenkgaaDoorFmt
import Derived.BigQuiet
import Derived.Deep.QuietTactic
namespace Go.Proofs.YtghnjdbamenkgaaDoor
open Go.RowKit

theorem drop_ne {s : ByteArray} {pos : Nat} (h : pos < s.size) : s.data.toList.drop pos ≠ [] := by
  intro e
  have := congrArg List.length e
  simp at this
  have : s.data.size = s.size := rfl
  omega

theorem drop_size (s : ByteArray) (pos : Nat) : (s.data.toList.drop pos).length = s.size - pos := by
  simp

theorem extract_list (s : ByteArray) (a : Nat) : (s.extract a s.size).data.toList = s.data.toList.drop a := by
  rw [ByteArray.data_extract, Array.toList_extract, List.extract_eq_take_drop]
  exact List.take_of_length_le (by rw [drop_size]; exact Nat.le_refl _)

set_option maxHeartbeats 400000 in
theorem wrong_any (s : ByteArray) (pos : Nat) (hp : pos < s.size) (_hs : s.size ≤ 1099511627776) (w : World) :
    Calls Tryd.prog 26 #[.string s, .int .i64 pos, .int .i32 (Utf8.decode s pos).1] w fun e w' => e = .returned (.bool (Rc1.wr (s.data.toList.drop pos))) ∧ w = w' := by
  have hw := Rc1.wr_eq (s.data.toList.drop pos) (drop_ne hp)
  rw [← Rc1.decode_eq] at hw
  by_cases h1 : (Utf8.decode s pos).1 = 65533
  · have HW := Lib.hid hw
    have h2 : (((Utf8.decode s pos).1 : Int) == 65533) = true := by rw [h1]; rfl
    have H1 := Lib.hid h1
    clear hw h1
    go_enter Tryd.func26, Tryd.ntmps26
    go_wp2_with (go_at_call 35; refine (Tryd.strings_HasPrefix _ _ _).mono ?_; rintro e w' ⟨rfl, rfl⟩)
    go_ret
    refine ⟨?_, rfl⟩
    rw [HW.out]
    simp [H1.out, Lib.hasPrefix]
    rw [List.take_of_length_le (by rw [drop_size]; exact Nat.le_refl _)]
  · have HW := Lib.hid hw
    have h2 : (((Utf8.decode s pos).1 : Int) == 65533) = false := by rw [beq_eq_false_iff_ne]; omega
    have H1 := Lib.hid h1
    clear hw h1
    go_enter Tryd.func26, Tryd.ntmps26
    go_wp2
    go_ret
    refine ⟨?_, rfl⟩
    rw [HW.out]
    simp [H1.out]

theorem builder_kept {T e : TypeId} {B b : Nat} {bs : List Value} {W W' : World} (h : Lib.IsBuilderF T e B b bs W) (hb : Below W.heap.size W W') : Lib.IsBuilderF T e B b bs W' := by
  have old : ∀ k o, W.heap[k]? = some o → W'.heap[k]? = some o := fun k o hk => by
    rw [hb.block k ((Array.getElem?_eq_some_iff.1 hk).1)]; exact hk
  have key : ∀ p, Lib.BuilderAtF T e B b p bs W → Lib.BuilderAtF T e B b p bs W' := by
    rintro p ⟨hB, v, hbk, hown, hne⟩
    refine ⟨hB, v, old _ _ hbk, ⟨hown.1, ?_⟩, hne⟩
    rcases hown.2 with hn | ⟨g, cap, cur, fz, hv, hbg, hg, rest⟩
    · exact .inl hn
    · exact .inr ⟨g, cap, cur, fz, hv, hbg, old _ _ hg, rest⟩
  exact h.elim (fun x => .inl (key _ x)) (fun x => .inr (key _ x))

theorem others_of_below {e : TypeId} {b : Option Nat} {W W' : World} (hb : Below W.heap.size W W') : Lib.OthersKept e b W W' :=
  fun k o hk _ _ => by rw [hb.block k ((Array.getElem?_eq_some_iff.1 hk).1)]; exact hk

theorem u8_small (r : Nat) (h : 33 ≤ r ∧ r ≤ 126) : IntKind.u8.wrap (r : Int) = r := by
  simp [IntKind.wrap, IntKind.signed, IntKind.bits]; omega

theorem cells_of (l : List UInt8) : Lib.strCells ⟨l.toArray⟩ = Lib.byteCells l := rfl

set_option maxHeartbeats 1000000 in
set_option maxRecDepth 100000 in
theorem quoteRune_any (B b : Nat) (acc : List UInt8) (r : Nat) (w : World) (hr : r ≤ 1114111) (h : Lib.IsBuilderF 43 5 B b (Lib.byteCells acc) w) (hlen : acc.length ≤ 70368744177664) (hBw : B ≤ w.heap.size) (hgB : 4 < B) (hT : Tab w) :
    Calls Tryd.prog 32 #[.pointer (some ⟨b, 0, none⟩), .int .i32 r] w fun e w' => e = .returned (.tuple #[]) ∧ (Lib.IsBuilderF 43 5 B b (Lib.byteCells (acc ++ Rc1.qr r)) w' ∧ Below B w w' ∧ Lib.OthersKept 5 (some b) w w') := by
  by_cases h92 : r = 92
  · have H92 := Lib.hid h92
    have hq : Rc1.qr r = [92, 92] := by simp [Rc1.qr, h92]
    have HQ := Lib.hid hq
    have e1 : ((r : Int) == 92) = true := by rw [h92]; rfl
    clear h92 hq
    go_enter Tryd.func32, Tryd.ntmps32
    go_wp2_with (go_at_call 30; refine (WriteString_k B b _ ⟨#[92, 92]⟩ _ h (by rw [Lib.byteCells_length]; show _ + 2 ≤ _; omega) hBw).mono ?_; rintro e w1 ⟨rfl, h1, b1, k1⟩)
    go_end0
    refine ⟨rfl, ?_, b1, k1⟩
    rw [HQ.out, Lib.byteCells_append]
    exact .inr h1
  · have e1 : ((r : Int) == 92) = false := by rw [beq_eq_false_iff_ne]; omega
    by_cases h2 : 33 ≤ r ∧ r ≤ 126
    · have hq : Rc1.qr r = [UInt8.ofNat r] := by simp [Rc1.qr, h92, h2]
      have hu := u8_small r h2
      have HQ := Lib.hid hq
      have H92 := Lib.hid h92
      obtain ⟨h21, h22⟩ := h2
      clear h92 hq
      go_enter Tryd.func32, Tryd.ntmps32
      go_wp2_with (go_at_call 42; refine (WriteByte_k B b _ _ _ h (by rw [Lib.byteCells_length]; omega) hBw).mono ?_; rintro e w1 ⟨rfl, h1, b1, k1⟩)
      go_end0
      refine ⟨rfl, ?_, b1, k1⟩
      rw [HQ.out, Lib.byteCells_append]
      refine .inr ?_
      have e3 : Lib.byteCells [UInt8.ofNat r] = [.int .u8 (r : Int)] := by
        simp [Lib.byteCells]; omega
      rw [e3]
      exact h1
    · have hq : Rc1.qr r = [92, 123] ++ Rc1.hexL r ++ [125] := by simp [Rc1.qr, h92, h2]
      have HQ := Lib.hid hq
      have h6 := Rc1.hexL_len8 r (by omega)
      have e2 : (decide (33 ≤ (r : Int)) && decide ((r : Int) ≤ 126)) = false := by
        rw [Bool.and_eq_false_iff]
        simp only [decide_eq_false_iff_not]; omega
      clear hq
      go_enter Tryd.func32, Tryd.ntmps32
      have h3 : r < 33 ∨ 126 < r := by omega
      have H92 := Lib.hid h92
      clear h2 h92
      rcases h3 with h3 | h3
      all_goals
        go_wp2_with (go_at_call 30; refine (WriteString_k B b _ ⟨#[92, 123]⟩ _ h (by rw [Lib.byteCells_length]; show _ + 2 ≤ _; omega) hBw).mono ?_; rintro e w1 ⟨rfl, h1, b1, k1⟩)
        have z1 := b1.size
        go_wp2_with (go_at_call 31; refine (FormatInt16 r (by show r < 4294967296; omega) _ (hT.below b1 hgB)).mono ?_; rintro e w2 ⟨rfl, b2⟩)
        have h2' := builder_kept (.inr h1) b2
        have k2 := others_of_below (e := 5) (b := some b) b2
        have z2 := b2.size
        have b2' := b2.mono (B' := B) (by omega)
        have l2 : (Lib.byteCells acc ++ Lib.strCells ⟨#[92, 123]⟩).length + (⟨(Rc1.hexL r).toArray⟩ : ByteArray).size ≤ 140737488355328 := by
          rw [List.length_append, Lib.byteCells_length, Lib.strCells_length]
          show _ + 2 + (Rc1.hexL r).toArray.size ≤ _
          rw [List.size_toArray]; omega
        go_wp2_with (go_at_call 30; refine (WriteString_k B b _ ⟨(Rc1.hexL r).toArray⟩ _ h2' l2 (by omega)).mono ?_; rintro e w3 ⟨rfl, h3', b3, k3⟩)
        have z3 := b3.size
        have l3 : (Lib.byteCells acc ++ Lib.strCells ⟨#[92, 123]⟩ ++ Lib.strCells ⟨(Rc1.hexL r).toArray⟩).length + 1 ≤ 140737488355328 := by
          rw [List.length_append, List.length_append, Lib.byteCells_length, Lib.strCells_length, Lib.strCells_length]
          show _ + 2 + (Rc1.hexL r).toArray.size + 1 ≤ _
          rw [List.size_toArray]; omega
        go_wp2_with (go_at_call 42; refine (WriteByte_k B b _ _ _ (.inr h3') l3 (by omega)).mono ?_; rintro e w4 ⟨rfl, h4, b4, k4⟩)
        go_end0
        refine ⟨rfl, .inr ?_, ((b1.trans b2').trans b3).trans b4, ((k1.trans k2).trans k3).trans k4⟩
        rw [HQ.out, Lib.byteCells_append, Lib.byteCells_append, Lib.byteCells_append, ← List.append_assoc, ← List.append_assoc]
        exact h4

theorem bt_at (s : ByteArray) (pos : Nat) (hp : pos < s.size) : Rc1.bt (s.data.toList.drop pos) 0 = (s[pos]'hp).toNat := by
  have hp' : pos < s.data.size := hp
  rw [Rc1.bt_drop]
  simp [Rc1.bt, List.getD_eq_getElem?_getD, Array.getElem?_eq_getElem hp']
  rfl

theorem isEmpty_of (s : ByteArray) : s.toList.isEmpty = decide (s.size = 0) := by
  rw [ByteArray.toList_eq, Bool.eq_iff_iff]
  simp only [List.isEmpty_iff, decide_eq_true_eq]
  rw [← List.length_eq_zero_iff, Array.length_toList]
  rfl

theorem nil_of (s : ByteArray) (h : s.size = 0) : s.data.toList = [] := by
  rw [← List.length_eq_zero_iff, Array.length_toList]; exact h

theorem drop_end (s : ByteArray) (pos : Nat) (h : ¬ pos < s.size) : s.data.toList.drop pos = [] :=
  List.drop_of_length_le (by rw [Array.length_toList]; exact Nat.le_of_not_lt h)

set_option maxHeartbeats 2000000 in
set_option maxRecDepth 100000 in
theorem Quote_any (s : ByteArray) (hs : s.size ≤ 1099511627776) (w : World) (hT : Tab w) :
    Calls Tryd.prog 24 #[.string s] w fun e w' => e = .returned (.string ⟨(Rc1.quote s.data.toList).toArray⟩) ∧ Below w.heap.size w w' := by
  have hie := isEmpty_of s
  by_cases h0 : s.size = 0
  · rw [decide_eq_true h0] at hie
    have HQ := Lib.hid (show Rc1.quote s.data.toList = [92, 95] by rw [nil_of s h0]; rfl)
    clear h0
    go_enter Tryd.func24, Tryd.ntmps24
    go_wp2
    go_ret
    rw [HQ.out]
    exact ⟨rfl, Below.refl _ _⟩
  · rw [decide_eq_false h0] at hie
    have HQ := Lib.hid (show Rc1.quote s.data.toList = Rc1.quoteF s.data.toList by
      unfold Rc1.quote; rw [if_neg]; intro e
      have := congrArg List.length e; rw [Array.length_toList] at this; exact h0 this)
    have hTB := hT.lt
    have HT := Lib.hid hT
    have HQL := Lib.hid (Rc1.quoteF_len s.data.toList)
    have hsd : s.data.toList.length = s.size := by simp
    have HSD := Lib.hid hsd
    clear h0 hT hsd
    go_enter Tryd.func24, Tryd.ntmps24
    go_wp2
    go_loopw [] (fun wr => ∃ (pos : Nat) (acc : List UInt8), Lib.IsBuilderF 43 5 w.heap.size w.heap.size (Lib.byteCells acc) wr ∧ wr.heap[w.heap.size + 1]? = some (.stringIter s pos) ∧ Below w.heap.size w wr ∧ Hid (acc ++ Rc1.quoteF (s.data.toList.drop pos) = Rc1.quoteF s.data.toList)) (fun wr => s.size - wr.iterPos (w.heap.size + 1))
    case atStart =>
      refine ⟨0, [], (Lib.IsBuilderF.of (Lib.fresh_isBuilder 43 5 w)).alloc _, ?_, ((Below.refl _ w).alloc (Nat.le_refl _) _).alloc (by simp) _, rfl⟩
      have := World.iter_heap (w.alloc (.cells #[.pointer none, .slice none 0 0] 43)) s 0
      simpa using this
    case round =>
      obtain ⟨pos, acc, hI, hit, hbw, hacc⟩ := hrel
      have hsz : w.heap.size + 1 < wr.heap.size := (Array.getElem?_eq_some_iff.1 hit).1
      have hal : acc.length ≤ 9 * s.size := by
        have h1 := congrArg List.length hacc.out
        have h2 := HQL.out
        rw [List.length_append] at h1
        rw [HSD.out] at h2
        omega
      by_cases hp : pos < s.size
      · have hnx : ∀ ty, (Instr.next (.pointer (some ⟨w.heap.size + 1, 0, none⟩)) true ty).run Tryd.prog wr = _ := fun ty => Lib.run_next_any_at wr (w.heap.size + 1) s pos ty hit hp
        have hne := drop_ne hp
        have hdf := Rc1.dec_facts _ hne
        have hde := Rc1.decode_eq s pos
        rw [← hde] at hdf
        obtain ⟨hd1, -, hd3, hd4, -⟩ := hdf
        rw [drop_size] at hd3
        have hI2 := hI.iterAt hit (pos + (Utf8.decode s pos).2)
        have hit2 := Lib.iterAt_heap wr (w.heap.size + 1) s pos (pos + (Utf8.decode s pos).2) hit
        have hbw2 := Lib.below_iterAt hbw (k := w.heap.size + 1) (by omega) s (pos + (Utf8.decode s pos).2)
        have hsz2 : w.heap.size ≤ (wr.iterAt (w.heap.size + 1) s (pos + (Utf8.decode s pos).2)).heap.size := by rw [Lib.iterAt_size]; omega
        have HQC := Lib.hid (Rc1.quoteF_cons _ hne)
        have HDE := Lib.hid hde
        have hbt := bt_at s pos hp
        have HBT := Lib.hid hbt
        have hb0 : (s[pos]'hp).toNat < 256 := UInt8.toNat_lt _
        have HIT := Lib.hid hit
        have HIT2 := Lib.hid hit2
        have HBW2 := Lib.hid hbw2
        have HNE := Lib.hid hne
        have HI2 := Lib.hid hI2
        clear hne hde hbt hI hit2 hbw2 hit hI2
        by_cases hwr : Rc1.wr (s.data.toList.drop pos) = true
        · have hWc := wrong_any s pos hp hs
          rw [hwr] at hWc
          have HWC := Lib.hid hWc
          have HWR := Lib.hid hwr
          clear hWc hwr
          go_wp2_with (first | (go_at_call 26; refine (HWC.out _).mono ?_; rintro e w1 ⟨rfl, rfl⟩) | (go_at_call 30; refine (WriteString_k _ _ _ ⟨#[92, 33]⟩ _ HI2.out (by rw [Lib.byteCells_length]; show _ + 2 ≤ _; omega) hsz2).mono ?_; rintro e w2 ⟨rfl, h2, b2, k2⟩))
          have BW := HBW2.out.trans b2
          have z2 := b2.size
          go_wp2_with (go_at_call 31; refine (FormatInt16 (s[pos]'hp).toNat (by show _ < 4294967296; omega) _ (HT.out.below BW hTB)).mono ?_; rintro e w3 ⟨rfl, b3⟩)
          have h3 := builder_kept (.inr h2) b3
          have k3 := others_of_below (e := 5) (b := some w.heap.size) b3
          have z3 := b3.size
          have b3' := b3.mono (B' := w.heap.size) (by omega)
          have h6 := Rc1.hexL_len8 (s[pos]'hp).toNat (by omega)
          have l3 : (Lib.byteCells acc ++ Lib.strCells ⟨#[92, 33]⟩).length + (⟨(Rc1.hexL (s[pos]'hp).toNat).toArray⟩ : ByteArray).size ≤ 140737488355328 := by
            rw [List.length_append, Lib.byteCells_length, Lib.strCells_length]
            show _ + 2 + (Rc1.hexL _).toArray.size ≤ _
            rw [List.size_toArray]; omega
          go_wp2_with (go_at_call 30; refine (WriteString_k _ _ _ ⟨(Rc1.hexL (s[pos]'hp).toNat).toArray⟩ _ h3 l3 (by omega)).mono ?_; rintro e w4 ⟨rfl, h4, b4, k4⟩)
          have hit4 := ((k2.trans k3).trans k4).iter HIT2.out (by omega)
          go_roundw
          case rel =>
            refine ⟨pos + (Utf8.decode s pos).2, acc ++ Rc1.qc (s.data.toList.drop pos), .inr ?_, hit4, (BW.trans b3').trans b4, ?_⟩
            · have e1 : Rc1.qc (s.data.toList.drop pos) = [92, 33] ++ Rc1.hexL (s[pos]'hp).toNat := by
                unfold Rc1.qc; rw [HWR.out, HBT.out]; rfl
              rw [e1, Lib.byteCells_append, Lib.byteCells_append, ← List.append_assoc]
              exact h4
            · show _ = _
              rw [← hacc.out, HQC.out, List.append_assoc, List.drop_drop, ← HDE.out]
          case measure =>
            simp only [World.iterPos, hit4, HIT.out]
            omega
        · have hWc := wrong_any s pos hp hs
          rw [Bool.not_eq_true] at hwr
          rw [hwr] at hWc
          have HWC := Lib.hid hWc
          have HWR := Lib.hid hwr
          clear hWc hwr
          go_wp2_with (first | (go_at_call 26; refine (HWC.out _).mono ?_; rintro e w1 ⟨rfl, rfl⟩) | (go_at_call 32; refine (quoteRune_any w.heap.size w.heap.size acc (Utf8.decode s pos).1 _ hd4 HI2.out (by omega) hsz2 hTB (HT.out.below HBW2.out hTB)).mono ?_; rintro e w2 ⟨rfl, h2, b2, k2⟩))
          have hit4 := k2.iter HIT2.out (by omega)
          go_roundw
          case rel =>
            refine ⟨pos + (Utf8.decode s pos).2, acc ++ Rc1.qc (s.data.toList.drop pos), ?_, hit4, HBW2.out.trans b2, ?_⟩
            · have e1 : Rc1.qc (s.data.toList.drop pos) = Rc1.qr (Utf8.decode s pos).1 := by
                unfold Rc1.qc; rw [HWR.out, HDE.out]; rfl
              rw [e1]
              exact h2
            · show _ = _
              rw [← hacc.out, HQC.out, List.append_assoc, List.drop_drop, ← HDE.out]
          case measure =>
            simp only [World.iterPos, hit4, HIT.out]
            omega
      · have hnx : ∀ ty, (Instr.next (.pointer (some ⟨w.heap.size + 1, 0, none⟩)) true ty).run Tryd.prog wr = _ := fun ty => Lib.run_next_end_at wr (w.heap.size + 1) s pos ty hit hp
        go_wp2_with (go_at_call 33; refine (Tryd.Builder_String_any_k w.heap.size w.heap.size acc _ hI (by omega)).mono ?_; rintro e W1 ⟨rfl, _, b1, _⟩)
        go_ret
        have hacc' := hacc.out
        rw [drop_end s pos hp, Rc1.quoteF_nil, List.append_nil] at hacc'
        rw [HQ.out, ← hacc']
        exact ⟨rfl, hbw.trans b1⟩

end Go.Proofs.YtghnjdbamenkgaaDoor
