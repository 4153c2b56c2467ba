/-
  The bytes that a file tells of itself. Condition: the file is well.
-/
import Derived.Test.YteellffkjjllgaaGreatQDrWr
namespace Go.Rc7
open Go.Rc5 Go.Rc6

theorem spansT_take {N : List Sp} {k : Nat} (h : k < N.length) : spansT (castS (N.take (k + 1))) = (spansT (castS (N.take k)) ++ Rc2.put 2 (N.getD k (0, 0)).1) ++ Rc2.put 2 (N.getD k (0, 0)).2 := by
  rw [List.take_succ_eq_append_getElem h, castS_append, spansT, List.flatMap_append, ← spansT, List.append_assoc]
  simp [List.getD_eq_getElem?_getD, List.getElem?_eq_getElem h, castS, spanT]

theorem castS_at {N : List Sp} {k : Nat} : (castS N).getD k (0, 0) = (((N.getD k (0, 0)).1 : Int), ((N.getD k (0, 0)).2 : Int)) := by
  simp only [castS, List.getD_eq_getElem?_getD, List.getElem?_map]
  cases N[k]? <;> rfl

theorem wrap_nat {n : Nat} (h : n < 9223372036854775808) : IntKind.u64.wrap ((n : Nat) : Int) = (n : Int) := by
  rw [IntKind.wrap_u64]
  omega

/-- What is written ahead of the spans. -/
def ahead7 (s : ByteArray) (z len : Nat) : List UInt8 := ((([] ++ Rc2.put 1 s.size) ++ s.data.toList) ++ Rc2.put 4 z) ++ Rc2.put 1 len

end Go.Rc7
namespace Go.Proofs.YteellffkjjllgaaGreat
open Go.RowKit Go.Rc5 Go.Rc6 Go.Rc7

set_option maxRecDepth 100000 in
set_option maxHeartbeats 16000000 in
theorem text_core (s : ByteArray) (hs96 : s.size ≤ 96) (z : Nat) (hz : z ≤ 20000) (N : List Sp) (hfit : ∀ x ∈ N, x.1 + x.2 ≤ 8192) (a : Option Addr) (c len : Nat) (w : World) (hs : SpansAt w a (castS N)) (hl : N.length = len) (hf : len ≤ 200) :
    Calls Tryz.prog 21 #[.agg #[.string s, .int .i64 (z : Int), .slice a len c]] w fun e w' => e = .returned (.string ⟨(ahead7 s z len ++ spansT (castS N)).toArray⟩) ∧ Below w.heap.size w w' := by
  have C := (Crew.start w).block #[.string s, .int .i64 (z : Int), .slice a len c] 40
  have hb := C.bel
  have HS := Lib.hid (fun W (hW : Below w.heap.size w W) => SpansAt.below hs hW)
  have u1 := wrap_nat (n := s.size) (by omega)
  have u2 := wrap_nat (n := z) (by omega)
  have u3 := wrap_nat (n := len) (by omega)
  have HP0 := Lib.hid (PutN 1 1 rfl (by decide) (by decide) s.size (by omega))
  have HP4 := Lib.hid (PutN 4 4 rfl (by decide) (by decide) z (by omega))
  have HP1 := Lib.hid (PutN 1 1 rfl (by decide) (by decide) len (by omega))
  have HPS := Lib.hid (fun (n : Nat) (hn : n < 65536) => PutN 2 2 rfl (by decide) (by decide) n (by omega))
  have HFIT := Lib.hid hfit
  have HL := Lib.hid hl
  have HB := Lib.hid hb
  have HC := Lib.hid C
  have HA : Hid (ahead7 s z len = ((([] ++ Rc2.put 1 s.size) ++ s.data.toList) ++ Rc2.put 4 z) ++ Rc2.put 1 len) := rfl
  clear C hb hs hl hfit
  have z0 := size_put 1 s.size
  have z4 := size_put 4 z
  have z1 := size_put 1 len
  generalize hP0 : ByteArray.mk (Rc2.put 1 s.size).toArray = P0 at HP0 z0
  generalize hP4 : ByteArray.mk (Rc2.put 4 z).toArray = P4 at HP4 z4
  generalize hP1 : ByteArray.mk (Rc2.put 1 len).toArray = P1 at HP1 z1
  have HQ : Hid (Rc2.put 1 s.size = P0.data.toList ∧ Rc2.put 4 z = P4.data.toList ∧ Rc2.put 1 len = P1.data.toList) := by
    rw [← hP0, ← hP4, ← hP1]
    exact ⟨rfl, rfl, rfl⟩
  clear hP0 hP4 hP1
  obtain ⟨w1, hw1⟩ : ∃ W, w.alloc (.cells #[.string s, .int .i64 (z : Int), .slice a len c] 40) = W := ⟨_, rfl⟩
  have HCELL : Hid (∀ W, Below w1.heap.size w1 W → W.cell? ⟨w.heap.size, 0, none⟩ = some (.string s) ∧ W.cell? ⟨w.heap.size, 1, none⟩ = some (.int .i64 (z : Int)) ∧ W.cell? ⟨w.heap.size, 2, none⟩ = some (.slice a len c)) := fun W hW => by
    rw [← hw1] at hW
    have C2 := HC.out.below hW
    exact ⟨(C2.at 0 rfl (j := 0) rfl).1, (C2.at 0 rfl (j := 1) rfl).1, (C2.at 0 rfl (j := 2) rfl).1⟩
  rw [hw1] at HB HC
  have hsz : w1.heap.size = w.heap.size + 1 := by rw [← hw1, World.size_alloc]
  obtain ⟨B, hB⟩ : ∃ B, w.heap.size + 1 = B := ⟨_, rfl⟩
  have h0 := Wr.start w1
  rw [hsz, hB] at h0
  have HW := Lib.hid h0
  have hBl : Below w1.heap.size w1 (w1.alloc (.cells #[.pointer none, .slice none 0 0] 74)) := (Below.refl _ w1).alloc (Nat.le_refl _) _
  obtain ⟨c0, c1, c2⟩ := HCELL.out _ hBl
  rw [hsz, hB] at HCELL
  rw [hB] at hsz
  clear HC h0 hBl
  go_enter Tryz.func21, Tryz.ntmps21
  go_wp2_with fail
  refine (HP0.out _).mono ?_
  rintro e w2 ⟨rfl, hb2⟩
  replace HW := Lib.hid (HW.out.next hb2)
  clear hb2 c0 c1 c2
  go_wp2_with fail
  refine (WriteS HW.out P0 (by omega) (by decide)).mono ?_
  rintro e w3 ⟨rfl, h3, _⟩
  replace HW := Lib.hid h3
  obtain ⟨c0, c1, c2⟩ := HCELL.out _ h3.bel
  clear h3
  go_wp2_with fail
  refine (WriteS HW.out s (by omega) (by decide)).mono ?_
  rintro e w4 ⟨rfl, h4, _⟩
  replace HW := Lib.hid h4
  clear c0 c1 c2
  obtain ⟨c0, c1, c2⟩ := HCELL.out _ h4.bel
  clear h4
  go_wp2_with fail
  refine (HP4.out _).mono ?_
  rintro e w5 ⟨rfl, hb5⟩
  replace HW := Lib.hid (HW.out.next hb5)
  clear hb5 c0 c1 c2
  go_wp2_with fail
  refine (WriteS HW.out P4 (by omega) (by decide)).mono ?_
  rintro e w6 ⟨rfl, h6, _⟩
  replace HW := Lib.hid h6
  obtain ⟨c0, c1, c2⟩ := HCELL.out _ h6.bel
  clear h6
  go_wp2_with fail
  refine (HP1.out _).mono ?_
  rintro e w7 ⟨rfl, hb7⟩
  replace HW := Lib.hid (HW.out.next hb7)
  clear hb7 c0 c1 c2
  go_wp2_with fail
  refine (WriteS HW.out P1 (by omega) (by decide)).mono ?_
  rintro e w8 ⟨rfl, h8, _⟩
  obtain ⟨c0, c1, c2⟩ := HCELL.out _ h8.bel
  replace HW : Hid (Wr B B w1 (ahead7 s z len ++ spansT (castS (N.take 0))) 400 w8) := by
    rw [HA.out, HQ.out.1, HQ.out.2.1, HQ.out.2.2, List.take_zero]
    show Wr _ _ _ (_ ++ []) _ _
    rw [List.append_nil]
    exact h8
  clear h8
  clear c0 c1 HP0 HP4 HP1 z0 z4 z1 u1 u2 u3 HQ HA
  go_wp2_with fail
  go_loopw [29] (fun i wr => ∃ k : Nat, i = .int .i64 k ∧ k ≤ len ∧ Hid (Wr B B w1 (ahead7 s z len ++ spansT (castS (N.take k))) (400 + 200 * k) wr)) (fun i _ => (len - intOf i).toNat)
  case atStart => exact ⟨0, rfl, by omega, HW.out⟩
  case round =>
    obtain ⟨k, rfl, hk, hI⟩ := hrel
    by_cases hlt : k < len
    · have hltI : (k : Int) < len := by omega
      have hbw : Below w.heap.size w wr := HB.out.trans (hI.out.bel.mono (by have := HB.out.size; omega))
      obtain ⟨x, rfl, d0, d1⟩ := HS.out wr hbw k (by rw [castS_length, HL.out]; exact hlt)
      have HT := Lib.hid (spansT_take (N := N) (k := k) (by rw [HL.out]; exact hlt))
      have hfit := HFIT.out (N.getD k (0, 0)) (by
        rw [List.getD_eq_getElem?_getD, List.getElem?_eq_getElem (by rw [HL.out]; exact hlt)]
        exact List.getElem_mem _)
      rw [castS_at] at d0 d1
      dsimp only at d0 d1
      generalize hsp : N.getD k (0, 0) = sp at *
      obtain ⟨s1, s2⟩ := sp
      dsimp only at d0 d1 HT hfit
      clear hsp hbw
      have u4 := wrap_nat (n := s1) (by omega)
      have u5 := wrap_nat (n := s2) (by omega)
      have z1 := size_put 2 s1
      have z2 := size_put 2 s2
      have HP1 := Lib.hid (HPS.out s1 (by omega))
      have HP2 := Lib.hid (HPS.out s2 (by omega))
      generalize hP1 : ByteArray.mk (Rc2.put 2 s1).toArray = P1 at HP1 z1
      generalize hP2 : ByteArray.mk (Rc2.put 2 s2).toArray = P2 at HP2 z2
      have HQ : Hid (Rc2.put 2 s1 = P1.data.toList ∧ Rc2.put 2 s2 = P2.data.toList) := by
        rw [← hP1, ← hP2]
        exact ⟨rfl, rfl⟩
      clear hP1 hP2 hfit HW
      have HW := Lib.hid (hI.out.next ((Below.refl _ wr).alloc (Nat.le_refl _) (.cells #[.int .i64 (s1 : Int), .int .i64 (s2 : Int)] 38)))
      have hblk : (wr.alloc (.cells #[.int .i64 (s1 : Int), .int .i64 (s2 : Int)] 38)).heap[wr.heap.size]? = some (.cells #[.int .i64 (s1 : Int), .int .i64 (s2 : Int)] 38 (0, 0)) := heap_alloc_new wr _
      have HBLK := Lib.hid hblk
      have HLT : Hid (B < wr.heap.size) := by
        have := hI.out.is
        rcases this with h | h
        · exact h.lt
        · exact h.lt
      clear hblk
      go_wp2_with fail
      refine (HP1.out _).mono ?_
      rintro e w12 ⟨rfl, hb12⟩
      replace HW := Lib.hid (HW.out.next hb12)
      replace HBLK := Lib.hid ((hb12.block _ (Array.getElem?_eq_some_iff.1 HBLK.out).1).trans HBLK.out)
      clear hb12
      go_wp2_with fail
      refine (WriteS HW.out P1 (by omega) (by omega)).mono ?_
      rintro e w13 ⟨rfl, h13, o13⟩
      replace HW := Lib.hid h13
      replace HBLK := Lib.hid (o13 _ _ HBLK.out (fun e => by have := HLT.out; simp at e; omega) (fun c fz e => by cases e))
      have e1 : w13.cell? ⟨wr.heap.size, 1, none⟩ = some (.int .i64 (s2 : Int)) := by rw [Lib.cell_of_heap HBLK.out]; rfl
      clear h13 o13
      go_wp2_with fail
      refine (HP2.out _).mono ?_
      rintro e w14 ⟨rfl, hb14⟩
      replace HW := Lib.hid (HW.out.next hb14)
      clear hb14 e1 HBLK
      go_wp2_with fail
      refine (WriteS HW.out P2 (by omega) (by omega)).mono ?_
      rintro e w15 ⟨rfl, h15, _⟩
      replace HW : Hid (Wr B B w1 (ahead7 s z len ++ spansT (castS (N.take (k + 1)))) (400 + 200 * (k + 1)) w15) := by
        rw [HT.out, HQ.out.1, HQ.out.2, ← List.append_assoc, ← List.append_assoc]
        exact h15
      clear h15
      go_wp2
      exact ⟨⟨k + 1, by go_num, by omega, HW.out⟩, by simp [intOf]; omega⟩
    · obtain rfl : k = len := by omega
      have hltI : ¬ (k : Int) < k := by omega
      have HST := Lib.hid (StringS hI.out)
      have HTK : Hid (N.take k = N) := List.take_of_length_le (by rw [HL.out]; exact Nat.le_refl _)
      go_wp2_with fail
      refine HST.out.mono ?_
      rintro e w15 ⟨rfl, h15⟩
      have HW2 := Lib.hid h15.bel
      clear h15
      go_wp2
      go_ret
      rw [HTK.out]
      exact ⟨rfl, HB.out.trans (HW2.out.mono (by have := HB.out.size; omega))⟩

theorem ahead7_head (f : Fl) : ahead7 f.name f.size.toNat f.spans.length = headT f := by simp [ahead7, headT]

theorem text_any (f : Fl) (k : Well f) (p : Option Addr) (c : Nat) (w : World) (h : SpansAt w p f.spans) :
    Calls Tryz.prog 21 #[.agg #[.string f.name, .int .i64 f.size, .slice p f.spans.length c]] w fun e w' => e = .returned (.string ⟨(textT f).toArray⟩) ∧ Below w.heap.size w w' := by
  obtain ⟨N, hN, _, hs, _⟩ := k.row
  have h2 := h
  rw [hN] at h2
  have := text_core f.name k.name_le f.size.toNat (by have := k.hi; have := k.lo; omega) N (fun x hx => (hs x hx).2) p c f.spans.length w h2 (by rw [hN, castS_length]) k.many
  rw [← hN, ahead7_head, Int.toNat_of_nonneg k.lo] at this
  exact this

end Go.Proofs.YteellffkjjllgaaGreat
