/-
  What label.Fold and the reference's Fold answer: each byte of A to Z with its small letter. Condition: the text has at most 2^40 bytes.
-/
import Derived.Test.YtghnjdbamenkgaaDoorRef
import Derived.Test.YtghnjdbamenkgaaDoorMathF
namespace Go.Proofs.YtghnjdbamenkgaaDoor
open Go.RowKit

/-- What lies in memory while a copy is folded: the iterator, and the bytes, folded up to pos. -/
def Folding (w wr : World) (s : ByteArray) (pos : Nat) : Prop :=
  Below w.heap.size w wr ∧ wr.heap[w.heap.size + 1]? = some (.stringIter s pos) ∧
  (∀ j, j < s.size → wr.cell? ⟨w.heap.size, j, none⟩ = some (.int .u8 ((if j < pos then Rc1.fN (Rc1.bt s.data.toList j) else Rc1.bt s.data.toList j : Nat) : Int))) ∧
  (∀ j, j < s.size → wr.frozen? ⟨w.heap.size, j, none⟩ = false)

theorem cell_iterAt (w : World) (k : Nat) (s : ByteArray) (pos : Nat) (a : Addr) (h : a.block ≠ k) : (w.iterAt k s pos).cell? a = w.cell? a := by
  unfold World.cell?; rw [Lib.iterAt_other _ _ _ _ _ h]
theorem frozen_iterAt (w : World) (k : Nat) (s : ByteArray) (pos : Nat) (a : Addr) (h : a.block ≠ k) : (w.iterAt k s pos).frozen? a = w.frozen? a := by
  unfold World.frozen?; rw [Lib.iterAt_other _ _ _ _ _ h]

/-- A rune that is no capital is passed by. -/
theorem Folding.pass {w wr : World} {s : ByteArray} {pos : Nat} (h : Folding w wr s pos) (d : Nat) (hd : ∀ j, pos ≤ j → j < pos + d → Rc1.fN (Rc1.bt s.data.toList j) = Rc1.bt s.data.toList j) : Folding w (wr.iterAt (w.heap.size + 1) s (pos + d)) s (pos + d) := by
  obtain ⟨hb, hi, hc, hf⟩ := h
  refine ⟨Lib.below_iterAt hb (by omega) _ _, Lib.iterAt_heap wr _ s pos _ hi, fun j hj => ?_, fun j hj => ?_⟩
  · rw [cell_iterAt _ _ _ _ _ (by simp), hc j hj]
    by_cases h1 : j < pos
    · rw [if_pos h1, if_pos (by omega)]
    · rw [if_neg h1]
      by_cases h2 : j < pos + d
      · rw [if_pos h2, hd j (by omega) h2]
      · rw [if_neg h2]
  · rw [frozen_iterAt _ _ _ _ _ (by simp)]; exact hf j hj

/-- A capital is written over. -/
theorem Folding.put {w wr : World} {s : ByteArray} {pos : Nat} (h : Folding w wr s pos) (hp : pos < s.size) : Folding w ((wr.iterAt (w.heap.size + 1) s (pos + 1)).setCell ⟨w.heap.size, pos, none⟩ (.int .u8 (Rc1.fN (Rc1.bt s.data.toList pos) : Nat))) s (pos + 1) := by
  obtain ⟨hb, hi, hc, hf⟩ := h
  have hb1 := Lib.below_iterAt hb (k := w.heap.size + 1) (by omega) s (pos + 1)
  refine ⟨hb1.setCell (p := ⟨w.heap.size, pos, none⟩) (Nat.le_refl _) _, ?_, fun j hj => ?_, fun j hj => ?_⟩
  · rw [Below.heap_setCell _ _ _ _ (by simp)]
    exact Lib.iterAt_heap wr _ s pos _ hi
  · by_cases e : j = pos
    · subst e
      rw [if_pos (by omega)]
      exact World.cell?_setCell_same _ _ _ (by rw [cell_iterAt _ _ _ _ _ (by simp)]; exact hc j hj)
    · rw [World.cell?_setCell_other _ _ _ _ (by first | (simp; done) | (simp; omega)), cell_iterAt _ _ _ _ _ (by simp), hc j hj]
      by_cases h1 : j < pos
      · rw [if_pos h1, if_pos (by omega)]
      · rw [if_neg h1, if_neg (by omega)]
  · rw [World.frozen?_setCell, frozen_iterAt _ _ _ _ _ (by simp)]; exact hf j hj

theorem Folding.back {w wr : World} {s : ByteArray} {pos : Nat} (h : Folding w wr s pos) (hp : ¬ pos < s.size) (cap : Nat) : (convert 36 9 (.slice (some ⟨w.heap.size, 0, none⟩) s.size cap)).run Tryd.prog wr = .ok (.string ⟨(Rc1.fold s.data.toList).toArray⟩) wr := by
  have e : s.size = (Rc1.fold s.data.toList).length := by rw [Rc1.fold_length, len_data]
  rw [e]
  refine run_convert_bytes_back wr 36 9 5 ⟨w.heap.size, 0, none⟩ cap _ Tryd.underlying36 Tryd.underlying5 Tryd.underlying9 (fun j hj => ?_)
  rw [← e] at hj
  have h1 := h.2.2.1 j hj
  rw [if_pos (by omega), ← Rc1.bt_fold, Rc1.bt_get _ j (by rw [← e]; exact hj)] at h1
  by_cases e0 : j = 0
  · subst e0; simpa [Addr.add] using h1
  · simpa [Addr.add, e0] using h1

theorem fold_start (w : World) (s : ByteArray) (cap : Nat) : Folding w (((w.alloc (.cells (bytesRow s cap) 5 ((bytesRow s cap).size, (bytesRow s cap).size + 1))).drew).iter s 0) s 0 := by
  have hsz : s.size ≤ (bytesRow s cap).size := by
    have : s.data.size = s.size := rfl
    first | (simp [bytesRow]; done) | (simp [bytesRow]; omega)
  have hz : ((w.alloc (.cells (bytesRow s cap) 5 ((bytesRow s cap).size, (bytesRow s cap).size + 1))).drew).heap.size = w.heap.size + 1 := by simp
  have hold : (((w.alloc (.cells (bytesRow s cap) 5 ((bytesRow s cap).size, (bytesRow s cap).size + 1))).drew).iter s 0).heap[w.heap.size]? = some (.cells (bytesRow s cap) 5 ((bytesRow s cap).size, (bytesRow s cap).size + 1)) := by
    unfold World.iter
    rw [Lib.alloc_old _ _ _ (by rw [hz]; omega)]
    exact (MapKept.heap_alloc w _).1
  refine ⟨?_, ?_, fun j hj => ?_, fun j hj => ?_⟩
  · exact (Below.drew ((Below.refl _ w).alloc (Nat.le_refl _) _)).alloc (by rw [hz]; omega) _
  · have := World.iter_heap ((w.alloc (.cells (bytesRow s cap) 5 ((bytesRow s cap).size, (bytesRow s cap).size + 1))).drew) s 0
    rwa [hz] at this
  · rw [if_neg (by omega), Lib.cell_of_heap hold, bytesRow_at s cap j hj, get_bt s j hj]; rfl
  · unfold World.frozen?
    rw [hold]
    simp; omega

set_option maxHeartbeats 1000000 in
theorem Fold_any (s : ByteArray) (_hs : s.size ≤ 1099511627776) (w : World) :
    Calls Tryd.prog 20 #[.string s] w fun e w' => e = .returned (.string ⟨(Rc1.fold s.data.toList).toArray⟩) ∧ Below w.heap.size w w' := by
  have hcv := fun W => run_bytes_of_string (P := Tryd.prog) W 9 36 5 s Tryd.underlying9 Tryd.underlying36 Tryd.underlying5
  go_enter Tryd.func20, Tryd.ntmps20
  go_wp2
  clear hcv
  have hst := fold_start w s (grownCap w s.size 0 5)
  generalize grownCap w s.size 0 5 = cap at *
  go_loopw [4, 5] (fun _ _ wr => ∃ pos : Nat, Folding w wr s pos) (fun _ _ wr => s.size - wr.iterPos (w.heap.size + 1))
  case atStart => exact ⟨0, hst⟩
  case round =>
    obtain ⟨pos, hF⟩ := hrel
    have HF := Lib.hid hF
    have hit := hF.2.1
    clear hF hst
    by_cases hp : pos < s.size
    · have hnx : ∀ ty, (Instr.next (.pointer (some ⟨w.heap.size + 1, 0, none⟩)) true ty).run Tryd.prog wr = _ := fun ty => Lib.run_next_any_at wr (w.heap.size + 1) s pos ty hit hp
      have HDE := Lib.hid (Rc1.decode_eq s pos)
      have HIT := Lib.hid hit
      have hne := drop_ne hp
      have hd1 := Rc1.dec_pos _ hne
      rw [← Rc1.decode_eq] at hd1
      have HNE := Lib.hid hne
      clear hit hne
      by_cases hc : 65 ≤ (Utf8.decode s pos).1 ∧ (Utf8.decode s pos).1 ≤ 90
      · have hcap := Rc1.fold_cap (s.data.toList.drop pos) (by rw [← HDE.out]; exact hc)
        rw [← HDE.out] at hcap
        rw [hcap.1] at hnx
        have hb := hcap.2
        rw [bt_at s pos hp] at hb
        have HW1 := Lib.hid hcap.1
        have HPUT := Lib.hid (HF.out.put hp)
        have hfn : Rc1.fN (Rc1.bt s.data.toList pos) = (s[pos]'hp).toNat + 32 := by
          rw [get_bt s pos hp, Rc1.fN, if_pos (by rw [hb]; exact hc)]
        have HFN := Lib.hid hfn
        have hcell : (wr.iterAt (w.heap.size + 1) s (pos + 1)).cell? ⟨w.heap.size, pos, none⟩ = some (.int .u8 ((s[pos]'hp).toNat : Int)) := by
          rw [cell_iterAt _ _ _ _ _ (by simp), HF.out.2.2.1 pos hp, if_neg (by omega), get_bt s pos hp]
        have hfz : (wr.iterAt (w.heap.size + 1) s (pos + 1)).frozen? ⟨w.heap.size, pos, none⟩ = false := by
          rw [frozen_iterAt _ _ _ _ _ (by simp)]; exact HF.out.2.2.2 pos hp
        have hlo : 65 ≤ (s[pos]'hp).toNat := by omega
        have hhi : (s[pos]'hp).toNat ≤ 90 := by omega
        have hc1 : decide ((65 : Int) ≤ (Utf8.decode s pos).1) = true := decide_eq_true (by omega)
        have hc2 : decide (((Utf8.decode s pos).1 : Int) ≤ 90) = true := decide_eq_true (by omega)
        have hu : IntKind.u8.wrap (IntKind.u8.wrap (((s[pos]'hp).toNat : Int) - 65) + 97) = ((s[pos]'hp).toNat : Int) + 32 := by
          simp [IntKind.wrap, IntKind.signed, IntKind.bits]; omega
        have hpi : (pos : Int) < s.size := by omega
        clear hc hcap hb hfn
        go_wp2
        go_roundw
        case rel =>
          refine ⟨pos + 1, ?_⟩
          rw [show ((s[pos]'hp).toNat : Int) - 65 + 97 = (((s[pos]'hp).toNat + 32 : Nat) : Int) by omega, ← HFN.out]
          exact HPUT.out
        case measure =>
          rw [show ((s[pos]'hp).toNat : Int) - 65 + 97 = (((s[pos]'hp).toNat + 32 : Nat) : Int) by omega, ← HFN.out]
          simp only [World.iterPos, HPUT.out.2.1, HIT.out]
          omega
      · have HPASS := Lib.hid (HF.out.pass (Utf8.decode s pos).2 (fun j h1 h2 => by
          have hsame := Rc1.fold_same (s.data.toList.drop pos) HNE.out (by rw [← HDE.out]; exact hc) (j - pos) (by rw [← HDE.out]; omega)
          rwa [Rc1.bt_drop, show pos + (j - pos) = j by omega] at hsame))
        have h3 : (Utf8.decode s pos).1 < 65 ∨ 90 < (Utf8.decode s pos).1 := by omega
        clear hc
        rcases h3 with h3 | h3
        all_goals
          go_wp2
          go_roundw
          case rel => exact ⟨_, HPASS.out⟩
          case measure =>
            simp only [World.iterPos, HPASS.out.2.1, HIT.out]
            omega
    · have hnx : ∀ ty, (Instr.next (.pointer (some ⟨w.heap.size + 1, 0, none⟩)) true ty).run Tryd.prog wr = _ := fun ty => Lib.run_next_end_at wr (w.heap.size + 1) s pos ty hit hp
      have hbk := HF.out.back hp cap
      go_wp2
      go_ret
      exact ⟨rfl, HF.out.1⟩

theorem fold_snoc (s : ByteArray) (k : Nat) (h : k < s.size) : (Rc1.fold s.data.toList).take (k + 1) = (Rc1.fold s.data.toList).take k ++ [Rc1.fB (s[k]'h)] := by
  rw [List.take_succ_eq_append_getElem (by rw [Rc1.fold_length, len_data]; exact h)]
  congr 2
  simp [Rc1.fold]
  rfl

theorem own_back {w wr : World} {v : Value} {l : List UInt8} (h : wr.ownsRowF w.heap.size 5 1 v l.length (Lib.byteCells l)) : (convert 36 9 v).run Tryd.prog wr = .ok (.string ⟨l.toArray⟩) wr := by
  rcases h.2 with ⟨rfl, h0⟩ | ⟨g, cap, cur, fz, rfl, _, hg, _, _, _, _, htk⟩
  · rw [List.length_eq_zero_iff] at h0
    subst h0
    exact run_convert_bytes_nil wr 36 5 Tryd.underlying36 Tryd.underlying5 0 0 9 Tryd.underlying9
  · refine run_convert_bytes_back wr 36 9 5 ⟨g, 0, none⟩ cap _ Tryd.underlying36 Tryd.underlying5 Tryd.underlying9 (fun j hj => ?_)
    exact h.cells rfl j _ (by simp [Lib.byteCells, List.getElem?_eq_getElem hj])

set_option maxHeartbeats 2000000 in
theorem rFold_any (s : ByteArray) (hs : s.size ≤ 1099511627776) (w : World) :
    Calls Tryd.prog 21 #[.string s] w fun e w' => e = .returned (.string ⟨(Rc1.fold s.data.toList).toArray⟩) ∧ Below w.heap.size w w' := by
  obtain ⟨i0, hi, hz0, hz1, hz2⟩ := info_parts infoB
  have hB := Below.refl w.heap.size w
  go_enter Tryd.func21, Tryd.ntmps21
  go_wp2
  go_loopw [3, 4, 5] (fun v i _ wr => ∃ k : Nat, k ≤ s.size ∧ i = .int .i64 k ∧ wr.ownsRowF w.heap.size 5 1 v k (Lib.byteCells ((Rc1.fold s.data.toList).take k)) ∧ Below w.heap.size w wr) (fun _ i _ _ => s.size - (intOf i).toNat)
  case atStart => exact ⟨0, Nat.zero_le _, rfl, World.ownsRowF_of (World.ownsRow_nil w _ _ _), hB⟩
  case round =>
    obtain ⟨k, hk, rfl, hown, hbr⟩ := hrel
    have HOWN := Lib.hid hown
    clear hB hown
    by_cases hlt : k < s.size
    · have hlt' : (k : Int) < s.size := by omega
      have hbz := hbr.size
      have hb256 : (s[k]'hlt).toNat < 256 := UInt8.toNat_lt _
      by_cases hc : 65 ≤ (s[k]'hlt).toNat ∧ (s[k]'hlt).toNat ≤ 90
      · obtain ⟨hc1, hc2⟩ := hc
        go_wp2_with (at_builtin; refine wpList_append_ownF _ rfl _ _ 36 rfl w.heap.size 5 i0 (.int .u8 0) 1 1 Tryd.underlying36 hi hz0 hz1 hz2 rfl (by decide) _ _ _ rfl (HOWN.out.alloc _) ⟨wr.heap.size, 0, none⟩ 1 1 [.int .u8 (((s[k]'hlt).toNat : Int) + 32)] rfl rfl (cell_one_new _ _ _) (fun u hu => by simp at hu; subst hu; rfl) (by unfold maxLen; omega) (by omega) (by simp; omega) ?_; intro v' w2 hown' hgrow _)
        go_roundw
        case rel =>
          refine ⟨k + 1, by omega, by go_num, ?_, ?_⟩
          · have e := fold_snoc s k hlt
            rw [e, Lib.byteCells_append]
            have e2 : Lib.byteCells [Rc1.fB (s[k]'hlt)] = [.int .u8 (((s[k]'hlt).toNat : Int) + 32)] := by
              show [Value.int .u8 ((Rc1.fB (s[k]'hlt)).toNat : Int)] = _
              rw [Rc1.fB_toNat, Rc1.fN, if_pos ⟨hc1, hc2⟩]; rfl
            rw [e2]
            exact hown'
          · exact (hbr.alloc (by omega) _).grown hgrow (by simp; omega) (fun g hg => (HOWN.out.lt g hg).1)
        case measure => simp [intOf]; omega
      · have h3 : (s[k]'hlt).toNat < 65 ∨ 90 < (s[k]'hlt).toNat := by omega
        clear hc
        rcases h3 with h3 | h3
        · go_wp2_with (at_builtin; refine wpList_append_ownF _ rfl _ _ 36 rfl w.heap.size 5 i0 (.int .u8 0) 1 1 Tryd.underlying36 hi hz0 hz1 hz2 rfl (by decide) _ _ _ rfl (HOWN.out.alloc _) ⟨wr.heap.size, 0, none⟩ 1 1 [.int .u8 (((s[k]'hlt).toNat : Int))] rfl rfl (cell_one_new _ _ _) (fun u hu => by simp at hu; subst hu; rfl) (by unfold maxLen; omega) (by omega) (by simp; omega) ?_; intro v' w2 hown' hgrow _)
          go_roundw
          case rel =>
            refine ⟨k + 1, by omega, by go_num, ?_, ?_⟩
            · have e := fold_snoc s k hlt
              rw [e, Lib.byteCells_append]
              have e2 : Lib.byteCells [Rc1.fB (s[k]'hlt)] = [.int .u8 (((s[k]'hlt).toNat : Int))] := by
                show [Value.int .u8 ((Rc1.fB (s[k]'hlt)).toNat : Int)] = _
                rw [Rc1.fB_toNat, Rc1.fN, if_neg (by omega)]
              rw [e2]
              exact hown'
            · exact (hbr.alloc (by omega) _).grown hgrow (by simp; omega) (fun g hg => (HOWN.out.lt g hg).1)
          case measure => simp [intOf]; omega
        · go_wp2_with (at_builtin; refine wpList_append_ownF _ rfl _ _ 36 rfl w.heap.size 5 i0 (.int .u8 0) 1 1 Tryd.underlying36 hi hz0 hz1 hz2 rfl (by decide) _ _ _ rfl (HOWN.out.alloc _) ⟨wr.heap.size, 0, none⟩ 1 1 [.int .u8 (((s[k]'hlt).toNat : Int))] rfl rfl (cell_one_new _ _ _) (fun u hu => by simp at hu; subst hu; rfl) (by unfold maxLen; omega) (by omega) (by simp; omega) ?_; intro v' w2 hown' hgrow _)
          go_roundw
          case rel =>
            refine ⟨k + 1, by omega, by go_num, ?_, ?_⟩
            · have e := fold_snoc s k hlt
              rw [e, Lib.byteCells_append]
              have e2 : Lib.byteCells [Rc1.fB (s[k]'hlt)] = [.int .u8 (((s[k]'hlt).toNat : Int))] := by
                show [Value.int .u8 ((Rc1.fB (s[k]'hlt)).toNat : Int)] = _
                rw [Rc1.fB_toNat, Rc1.fN, if_neg (by omega)]
              rw [e2]
              exact hown'
            · exact (hbr.alloc (by omega) _).grown hgrow (by simp; omega) (fun g hg => (HOWN.out.lt g hg).1)
          case measure => simp [intOf]; omega
    · have hke : k = (Rc1.fold s.data.toList).length := by rw [Rc1.fold_length, len_data]; omega
      have hbk := own_back (w := w) (wr := wr) (by
        have := HOWN.out
        rw [List.take_of_length_le (by omega), hke] at this
        exact this)
      clear hke
      go_wp2
      go_ret
      exact ⟨rfl, hbr⟩

end Go.Proofs.YtghnjdbamenkgaaDoor
