/-
  What the program's Put makes of a right head: its sector. Conditions: as each theorem states them.
-/
import Derived.Test.YtnknojkihjpjkaaHdPut
namespace Go.Proofs.Ytnknojkihjpjkaa
open Go.RowKit Go.Rc5 Go.Rc6

theorem spansB_take {N : List Sp} {k : Nat} (h : k < N.length) : spansB (N.take (k + 1)) = (spansB (N.take k) ++ Rc2.put 2 (N.getD k (0, 0)).1) ++ Rc2.put 2 (N.getD k (0, 0)).2 := by
  rw [List.take_succ_eq_append_getElem h, spansB_snoc, spanB, List.append_assoc]
  simp [List.getD_eq_getElem?_getD, List.getElem?_eq_getElem h]

theorem castS_at {N : List Sp} {k : Nat} : (castS N).getD k (0, 0) = (((N.getD k (0, 0)).1 : Int), ((N.getD k (0, 0)).2 : Int)) := by
  simp only [castS, List.getD_eq_getElem?_getD, List.getElem?_map]
  cases N[k]? <;> rfl

theorem wrap_nat {n : Nat} (h : n < 9223372036854775808) : IntKind.u64.wrap ((n : Nat) : Int) = (n : Int) := by
  rw [IntKind.wrap_u64]
  omega

/-- What is written ahead of the spans. -/
def ahead5 (h : Hd) : List UInt8 := ((((([] ++ magic) ++ Rc2.put 8 h.gen) ++ Rc2.put 2 h.sectors) ++ Rc2.put 4 h.size) ++ Rc2.put 1 h.spans.length)

theorem ahead5_body (h : Hd) : ahead5 h ++ spansB h.spans = body h := by
  simp [ahead5, body]

set_option maxRecDepth 100000 in
set_option maxHeartbeats 16000000 in
theorem Put_yes (h : Hd) (k : h.Ok) (a : Option Addr) (c len : Nat) (w : World) (hs : SpansAt w a (castS h.spans)) (hl : h.spans.length = len) :
    Calls Try.prog 10 #[.agg #[.int .u64 (h.gen : Int), .int .i64 (h.sectors : Int), .int .i64 (h.size : Int), .slice a len c]] w fun e w' => e = .returned (.tuple #[.string (hdB h), .int .i64 0]) ∧ Below w.heap.size w w' := by
  have C := (Crew.start w).block #[.int .u64 (h.gen : Int), .int .i64 (h.sectors : Int), .int .i64 (h.size : Int), .slice a len c] 25
  have hb := C.bel
  have HR := Lib.hid (fun W hW => Right_yes h k a c len W (SpansAt.below hs hW) hl)
  have HS := Lib.hid (fun W (hW : Below w.heap.size w W) => SpansAt.below hs hW)
  have hz := k.size_lt
  have hhi := k.high
  have hg := k.gen
  have hf : len ≤ 8 := by have := k.few; omega
  have u1 := wrap_nat (n := h.sectors) (by omega)
  have u2 := wrap_nat (n := h.size) (by omega)
  have u3 := wrap_nat (n := len) (by omega)
  have HP8 := Lib.hid (PutN 8 8 rfl (by decide) (by decide) h.gen hg)
  have HP2 := Lib.hid (PutN 2 2 rfl (by decide) (by decide) h.sectors (by omega))
  have HP4 := Lib.hid (PutN 4 4 rfl (by decide) (by decide) h.size (by omega))
  have HP1 := Lib.hid (PutN 1 1 rfl (by decide) (by decide) len (by omega))
  have HPS := Lib.hid (fun (n : Nat) (hn : n < 65536) => PutN 2 2 rfl (by decide) (by decide) n (by omega))
  have HFIT := Lib.hid (show ∀ x ∈ h.spans, x.1 + x.2 ≤ 8192 from fun x hx => by have := k.fit x hx; omega)
  have HL := Lib.hid hl
  have HBODY := Lib.hid (ahead5_body h)
  have HBL := Lib.hid (body_length h)
  have HTX : Hid (text h = body h ++ List.replicate (60 - (body h).length) 0) := rfl
  have HSEAL := Lib.hid (fun W => Put_seal ⟨(text h).toArray⟩ (by
    show (text h).toArray.size + 4 ≤ _
    rw [List.size_toArray, text_length h k.few]
    decide) W)
  have HB := Lib.hid hb
  have HC := Lib.hid C
  have HA : Hid (ahead5 h = (((([] ++ magic) ++ Rc2.put 8 h.gen) ++ Rc2.put 2 h.sectors) ++ Rc2.put 4 h.size) ++ Rc2.put 1 len) := by
    rw [← hl]
    exact rfl
  clear C hb hs hl k
  generalize h.gen = g at *
  generalize h.sectors = sec at *
  generalize h.size = z at *
  generalize h.spans = N at *
  have z8 := size_put 8 g
  have z2 := size_put 2 sec
  have z4 := size_put 4 z
  have z1 := size_put 1 len
  generalize hP8 : ByteArray.mk (Rc2.put 8 g).toArray = P8 at HP8 z8
  generalize hP2 : ByteArray.mk (Rc2.put 2 sec).toArray = P2 at HP2 z2
  generalize hP4 : ByteArray.mk (Rc2.put 4 z).toArray = P4 at HP4 z4
  generalize hP1 : ByteArray.mk (Rc2.put 1 len).toArray = P1 at HP1 z1
  have HQ : Hid (Rc2.put 8 g = P8.data.toList ∧ Rc2.put 2 sec = P2.data.toList ∧ Rc2.put 4 z = P4.data.toList ∧ Rc2.put 1 len = P1.data.toList) := by
    rw [← hP8, ← hP2, ← hP4, ← hP1]
    exact ⟨rfl, rfl, rfl, rfl⟩
  clear hP8 hP2 hP4 hP1
  go_enter Try.func10, Try.ntmps10
  go_wp2_with (go_at_call 13; refine (HR.out _ HB.out).mono ?_; rintro e w1 ⟨rfl, hb1⟩)
  have HB1 := Lib.hid (below_trans HB.out hb1)
  have C1 := HC.out.below hb1
  have HCELL : Hid (∀ W, Below w1.heap.size w1 W → (W.cell? ⟨w.heap.size, 0, none⟩ = some (.int .u64 (g : Int)) ∧ W.cell? ⟨w.heap.size, 1, none⟩ = some (.int .i64 (sec : Int))) ∧ W.cell? ⟨w.heap.size, 2, none⟩ = some (.int .i64 (z : Int)) ∧ W.cell? ⟨w.heap.size, 3, none⟩ = some (.slice a len c)) := fun W hW =>
    have C2 := C1.below hW
    ⟨⟨(C2.at 0 rfl (j := 0) rfl).1, (C2.at 0 rfl (j := 1) rfl).1⟩, (C2.at 0 rfl (j := 2) rfl).1, (C2.at 0 rfl (j := 3) rfl).1⟩
  have HW := Lib.hid (Wr.start w1)
  clear C1 hb1 HC HR HB
  go_wp2_with fail
  refine (WriteS HW.out ⟨#[114, 116, 99, 108]⟩ (by decide) (by decide)).mono ?_
  rintro e w2 ⟨rfl, h2, _⟩
  replace HW : Hid (Wr w1.heap.size w1.heap.size w1 ([] ++ magic) 64 w2) := h2
  obtain ⟨⟨c0, c1⟩, c2, c3⟩ := HCELL.out _ h2.bel
  clear h2
  go_wp2_with fail
  refine (HP8.out _).mono ?_
  rintro e w3 ⟨rfl, hb3⟩
  replace HW := Lib.hid (HW.out.next hb3)
  clear hb3 c0 c1 c2 c3
  go_wp2_with fail
  refine (WriteS HW.out P8 (by omega) (by decide)).mono ?_
  rintro e w4 ⟨rfl, h4, _⟩
  replace HW := Lib.hid h4
  obtain ⟨⟨c0, c1⟩, c2, c3⟩ := HCELL.out _ h4.bel
  clear h4
  go_wp2_with fail
  refine (HP2.out _).mono ?_
  rintro e w5 ⟨rfl, hb5⟩
  replace HW := Lib.hid (HW.out.next hb5)
  clear hb5 c0 c1 c2 c3
  go_wp2_with fail
  refine (WriteS HW.out P2 (by omega) (by decide)).mono ?_
  rintro e w6 ⟨rfl, h6, _⟩
  replace HW := Lib.hid h6
  obtain ⟨⟨c0, c1⟩, c2, c3⟩ := HCELL.out _ h6.bel
  clear h6
  go_wp2_with fail
  refine (HP4.out _).mono ?_
  rintro e w7 ⟨rfl, hb7⟩
  replace HW := Lib.hid (HW.out.next hb7)
  clear hb7 c0 c1 c2 c3
  go_wp2_with fail
  refine (WriteS HW.out P4 (by omega) (by decide)).mono ?_
  rintro e w8 ⟨rfl, h8, _⟩
  replace HW := Lib.hid h8
  obtain ⟨⟨c0, c1⟩, c2, c3⟩ := HCELL.out _ h8.bel
  clear h8
  go_wp2_with fail
  refine (HP1.out _).mono ?_
  rintro e w9 ⟨rfl, hb9⟩
  replace HW := Lib.hid (HW.out.next hb9)
  clear hb9 c0 c1 c2 c3
  go_wp2_with fail
  refine (WriteS HW.out P1 (by omega) (by decide)).mono ?_
  rintro e w10 ⟨rfl, h10, _⟩
  obtain ⟨⟨c0, c1⟩, c2, c3⟩ := HCELL.out _ h10.bel
  replace HW : Hid (Wr w1.heap.size w1.heap.size w1 (ahead5 h ++ spansB (N.take 0)) 320 w10) := by
    rw [HA.out, HQ.out.1, HQ.out.2.1, HQ.out.2.2.1, HQ.out.2.2.2, List.take_zero]
    show Wr _ _ _ (_ ++ []) _ _
    rw [List.append_nil]
    exact h10
  clear h10
  clear c0 c1 c2 HP8 HP2 HP4 HP1 z8 z2 z4 z1 u1 u2 u3 HQ HA
  go_wp2_with fail
  go_loopw [6, 34] (fun _ i wr => ∃ k : Nat, i = .int .i64 k ∧ k ≤ len ∧ Hid (Wr w1.heap.size w1.heap.size w1 (ahead5 h ++ spansB (N.take k)) (320 + 128 * k) wr)) (fun _ i _ => (len - intOf i).toNat)
  case atStart => exact ⟨0, rfl, by omega, HW.out⟩
  case round =>
    obtain ⟨k, rfl, hk, hI⟩ := hrel
    by_cases hlt : k < len
    · have hltI : (k : Int) < len := by omega
      obtain ⟨x, rfl, d0, d1⟩ := HS.out wr (below_trans HB1.out hI.out.bel) k (by rw [castS_length, HL.out]; exact hlt)
      have HT := Lib.hid (spansB_take (N := N) (k := k) (by rw [HL.out]; exact hlt))
      have hfit := HFIT.out (N.getD k (0, 0)) (by
        rw [List.getD_eq_getElem?_getD, List.getElem?_eq_getElem (by rw [HL.out]; exact hlt)]
        exact List.getElem_mem _)
      rw [castS_at] at d0 d1
      dsimp only at d0 d1
      generalize hsp : N.getD k (0, 0) = sp at *
      obtain ⟨s1, s2⟩ := sp
      dsimp only at d0 d1 HT hfit
      clear hsp
      have u4 := wrap_nat (n := s1) (by omega)
      have u5 := wrap_nat (n := s2) (by omega)
      have z1 := size_put 2 s1
      have z2 := size_put 2 s2
      have HP1 := Lib.hid (HPS.out s1 (by omega))
      have HP2 := Lib.hid (HPS.out s2 (by omega))
      generalize hP1 : ByteArray.mk (Rc2.put 2 s1).toArray = P1 at HP1 z1
      generalize hP2 : ByteArray.mk (Rc2.put 2 s2).toArray = P2 at HP2 z2
      have HQ : Hid (Rc2.put 2 s1 = P1.data.toList ∧ Rc2.put 2 s2 = P2.data.toList) := by
        rw [← hP1, ← hP2]
        exact ⟨rfl, rfl⟩
      clear hP1 hP2 hfit HW
      have HW := Lib.hid (hI.out.next ((Below.refl _ wr).alloc (Nat.le_refl _) (.cells #[.int .i64 (s1 : Int), .int .i64 (s2 : Int)] 53)))
      have hblk : (wr.alloc (.cells #[.int .i64 (s1 : Int), .int .i64 (s2 : Int)] 53)).heap[wr.heap.size]? = some (.cells #[.int .i64 (s1 : Int), .int .i64 (s2 : Int)] 53 (0, 0)) := heap_alloc_new wr _
      have HBLK := Lib.hid hblk
      have HLT : Hid (w1.heap.size < wr.heap.size) := by
        have := hI.out.is
        rcases this with h | h
        · exact h.lt
        · exact h.lt
      clear hblk
      go_wp2_with fail
      refine (HP1.out _).mono ?_
      rintro e w12 ⟨rfl, hb12⟩
      replace HW := Lib.hid (HW.out.next hb12)
      replace HBLK := Lib.hid ((hb12.block _ (Array.getElem?_eq_some_iff.1 HBLK.out).1).trans HBLK.out)
      clear hb12
      go_wp2_with fail
      refine (WriteS HW.out P1 (by omega) (by omega)).mono ?_
      rintro e w13 ⟨rfl, h13, o13⟩
      replace HW := Lib.hid h13
      replace HBLK := Lib.hid (o13 _ _ HBLK.out (fun e => by have := HLT.out; simp at e; omega) (fun c fz e => by cases e))
      have e1 : w13.cell? ⟨wr.heap.size, 1, none⟩ = some (.int .i64 (s2 : Int)) := by rw [Lib.cell_of_heap HBLK.out]; rfl
      clear h13 o13
      go_wp2_with fail
      refine (HP2.out _).mono ?_
      rintro e w14 ⟨rfl, hb14⟩
      replace HW := Lib.hid (HW.out.next hb14)
      clear hb14 e1 HBLK
      go_wp2_with fail
      refine (WriteS HW.out P2 (by omega) (by omega)).mono ?_
      rintro e w15 ⟨rfl, h15, _⟩
      replace HW : Hid (Wr w1.heap.size w1.heap.size w1 (ahead5 h ++ spansB (N.take (k + 1))) (320 + 128 * (k + 1)) w15) := by
        rw [HT.out, HQ.out.1, HQ.out.2, ← List.append_assoc, ← List.append_assoc]
        exact h15
      clear h15
      go_wp2
      exact ⟨⟨k + 1, by go_num, by omega, HW.out⟩, by simp [intOf]; omega⟩
    · obtain rfl : k = len := by omega
      have hltI : ¬ (k : Int) < k := by omega
      have hm : (ahead5 h ++ spansB (N.take k)).length = 19 + 4 * k := by
        rw [List.take_of_length_le (by rw [HL.out]; exact Nat.le_refl _), HBODY.out, HBL.out, HL.out]
      have hb60 : (body h).length = 19 + 4 * k := by rw [HBL.out, HL.out]
      replace HW : Hid (Wr w1.heap.size w1.heap.size w1 (body h) (320 + 128 * k) wr) := by
        rw [← HBODY.out]
        rw [List.take_of_length_le (by rw [HL.out]; exact Nat.le_refl _)] at hI
        exact hI.out
      have HLEN := Lib.hid (LenS HW.out (19 + 4 * k) hb60)
      clear hm hI c3
      obtain ⟨m, hm⟩ : ∃ m, 19 + 4 * k = m := ⟨_, rfl⟩
      have hm1 : m ≤ 51 := by omega
      have HTX2 : Hid (text h = body h ++ List.replicate (60 - m) 0) := by rw [HTX.out, hb60, hm]; exact rfl
      rw [hm] at HLEN
      clear hb60 hlt
      go_wp2_with fail
      refine HLEN.out.mono ?_
      rintro e w12 ⟨rfl, rfl⟩
      go_wp2_with fail
      refine (RepeatS _ (60 - m) (by omega) (by omega) _).mono ?_
      rintro e w13 ⟨rfl, hb13⟩
      replace HW := Lib.hid (HW.out.next hb13)
      clear hb13
      have z3 : (ByteArray.mk (List.replicate (60 - m) (0 : UInt8)).toArray).size = 60 - m := by
        show (List.replicate (60 - m) (0 : UInt8)).toArray.size = _
        simp
      generalize hP3 : ByteArray.mk (List.replicate (60 - m) (0 : UInt8)).toArray = P3 at z3 ⊢
      have HQ : Hid (List.replicate (60 - m) (0 : UInt8) = P3.data.toList) := by rw [← hP3]; exact rfl
      clear hP3
      go_wp2_with fail
      refine (WriteS HW.out P3 (by omega) (by omega)).mono ?_
      rintro e w14 ⟨rfl, h14, _⟩
      rw [← HQ.out, ← HTX2.out] at h14
      replace HW := Lib.hid h14
      clear h14
      generalize hS : ByteArray.mk (text h).toArray = S at HSEAL
      have HST := Lib.hid (StringS HW.out)
      rw [hS] at HST
      have HHB : Hid (hdB h = sealedB S) := by
        rw [← hS]
        exact rfl
      clear hS
      go_wp2_with fail
      refine HST.out.mono ?_
      rintro e w15 ⟨rfl, h15⟩
      replace HW := Lib.hid h15
      clear h15
      go_wp2_with fail
      refine (HSEAL.out _).mono ?_
      rintro e w16 ⟨rfl, hb16⟩
      go_wp2
      go_ret2
      rw [HHB.out]
      exact ⟨rfl, below_trans HB1.out (below_trans HW.out.bel hb16)⟩

end Go.Proofs.Ytnknojkihjpjkaa
