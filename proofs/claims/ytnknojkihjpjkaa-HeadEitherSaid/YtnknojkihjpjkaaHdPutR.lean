/-
  What the document's Put makes of a head. Conditions: as each theorem states them.
-/
import Derived.Test.YtnknojkihjpjkaaHdRightR
import Derived.Test.YtnknojkihjpjkaaHdPutB
import Derived.Test.YtnknojkihjpjkaaHeLaw
namespace Go.Proofs.Ytnknojkihjpjkaa
open Go.RowKit Go.Rc5 Go.Rc6

theorem PutRN (m : Int) (q : Nat) (hm : m = (q : Int)) (hq : 1 ≤ q) (hq8 : q ≤ 8) (n : Nat) (hn : n < 18446744073709551616) (w : World) :
    Calls Try.prog 27 #[.int .u64 (n : Int), .int .i64 m] w fun e w' => e = .returned (.string ⟨(Rc2.put q n).toArray⟩) ∧ Below w.heap.size w w' :=
  PutR_core n hn m q (by omega) w

open Classical in
theorem RightR_yes (h : Hd) (k : h.Ok) (a : Option Addr) (c len : Nat) (w : World) (hs : SpansAt w a (castS h.spans)) (hl : h.spans.length = len) :
    Calls Try.prog 14 #[.agg #[.int .u64 (h.gen : Int), .int .i64 (h.sectors : Int), .int .i64 (h.size : Int), .slice a len c]] w fun e w' => e = .returned (.bool true) ∧ Below w.heap.size w w' := by
  have hz := k.size_lt
  have := RightR_any h.gen k.gen h.sectors h.size (by omega) a c len (castS h.spans) w hs (by rw [castS_length, hl])
  rw [decide_eq_true (show HdGood h.gen h.sectors h.size (castS h.spans) from ⟨h, k, rfl, rfl, rfl, rfl⟩)] at this
  exact this

open Classical in
theorem RightR_no (g : Nat) (hg : g < 18446744073709551616) (s z : Int) (hz : z ≤ 9223372036854775807) (a : Option Addr) (c len : Nat) (L : List SpI) (w : World) (h : SpansAt w a L) (hl : L.length = len) (hno : ¬ HdGood g s z L) :
    Calls Try.prog 14 #[.agg #[.int .u64 (g : Int), .int .i64 s, .int .i64 z, .slice a len c]] w fun e w' => e = .returned (.bool false) ∧ Below w.heap.size w w' := by
  have := RightR_any g hg s z hz a c len L w h hl
  rw [decide_eq_false hno] at this
  exact this

set_option maxHeartbeats 2000000 in
theorem PutR_no (g : Nat) (hg : g < 18446744073709551616) (s z : Int) (hz : z ≤ 9223372036854775807) (a : Option Addr) (c len : Nat) (L : List SpI) (w : World) (h : SpansAt w a L) (hl : L.length = len) (hno : ¬ HdGood g s z L) :
    Calls Try.prog 11 #[.agg #[.int .u64 (g : Int), .int .i64 s, .int .i64 z, .slice a len c]] w fun e w' => e = .returned (.tuple #[.string ⟨#[]⟩, .int .i64 1]) ∧ Below w.heap.size w w' := by
  have HB := Lib.hid ((Crew.start w).block #[.int .u64 (g : Int), .int .i64 s, .int .i64 z, .slice a len c] 31).bel
  have HR := Lib.hid (fun W hW => RightR_no g hg s z hz a c len L W (SpansAt.below h hW) hl hno)
  clear h hl hno hz hg
  go_enter Try.func11, Try.ntmps11
  go_wp2_with (go_at_call 14; refine (HR.out _ HB.out).mono ?_; rintro e w1 ⟨rfl, hb1⟩)
  go_ret2
  exact ⟨rfl, below_trans HB.out hb1⟩

/-- How many bytes a text lacks of sixty. -/
def lack : Value → Nat
  | .string s => 60 - s.size
  | _ => 0

set_option maxRecDepth 100000 in
set_option maxHeartbeats 16000000 in
theorem PutR_yes (h : Hd) (k : h.Ok) (a : Option Addr) (c len : Nat) (w : World) (hs : SpansAt w a (castS h.spans)) (hl : h.spans.length = len) :
    Calls Try.prog 11 #[.agg #[.int .u64 (h.gen : Int), .int .i64 (h.sectors : Int), .int .i64 (h.size : Int), .slice a len c]] w fun e w' => e = .returned (.tuple #[.string (hdB h), .int .i64 0]) ∧ Below w.heap.size w w' := by
  have C := (Crew.start w).block #[.int .u64 (h.gen : Int), .int .i64 (h.sectors : Int), .int .i64 (h.size : Int), .slice a len c] 31
  have hb := C.bel
  have HR := Lib.hid (fun W hW => RightR_yes h k a c len W (SpansAt.below hs hW) hl)
  have HS := Lib.hid (fun W (hW : Below w.heap.size w W) => SpansAt.below hs hW)
  have hz := k.size_lt
  have hhi := k.high
  have hg := k.gen
  have hf : len ≤ 8 := by have := k.few; omega
  have u1 := wrap_nat (n := h.sectors) (by omega)
  have u2 := wrap_nat (n := h.size) (by omega)
  have u3 := wrap_nat (n := len) (by omega)
  have HP8 := Lib.hid (PutRN 8 8 rfl (by decide) (by decide) h.gen hg)
  have HP2 := Lib.hid (PutRN 2 2 rfl (by decide) (by decide) h.sectors (by omega))
  have HP4 := Lib.hid (PutRN 4 4 rfl (by decide) (by decide) h.size (by omega))
  have HP1 := Lib.hid (PutRN 1 1 rfl (by decide) (by decide) len (by omega))
  have HPS := Lib.hid (fun (n : Nat) (hn : n < 65536) => PutRN 2 2 rfl (by decide) (by decide) n (by omega))
  have HFIT := Lib.hid (show ∀ x ∈ h.spans, x.1 + x.2 ≤ 8192 from fun x hx => by have := k.fit x hx; omega)
  have HL := Lib.hid hl
  have HBODY := Lib.hid (ahead5_body h)
  have HBL := Lib.hid (body_length h)
  have HTX : Hid (text h = body h ++ List.replicate (60 - (body h).length) 0) := rfl
  have HSEAL := Lib.hid (fun (S : ByteArray) (hS : S.size = 60) W => PutR_seal S (by rw [hS]; decide) W)
  have HB := Lib.hid hb
  have HC := Lib.hid C
  have HA : Hid (ahead5 h = (((([] ++ magic) ++ Rc2.put 8 h.gen) ++ Rc2.put 2 h.sectors) ++ Rc2.put 4 h.size) ++ Rc2.put 1 len) := by
    rw [← hl]
    exact rfl
  clear C hb hs hl k
  generalize h.gen = g at *
  generalize h.sectors = sec at *
  generalize h.size = z at *
  generalize h.spans = N at *
  have z8 := size_put 8 g
  have z2 := size_put 2 sec
  have z4 := size_put 4 z
  have z1 := size_put 1 len
  generalize hP8 : ByteArray.mk (Rc2.put 8 g).toArray = P8 at HP8 z8
  generalize hP2 : ByteArray.mk (Rc2.put 2 sec).toArray = P2 at HP2 z2
  generalize hP4 : ByteArray.mk (Rc2.put 4 z).toArray = P4 at HP4 z4
  generalize hP1 : ByteArray.mk (Rc2.put 1 len).toArray = P1 at HP1 z1
  have HQ : Hid (Rc2.put 8 g = P8.data.toList ∧ Rc2.put 2 sec = P2.data.toList ∧ Rc2.put 4 z = P4.data.toList ∧ Rc2.put 1 len = P1.data.toList) := by
    rw [← hP8, ← hP2, ← hP4, ← hP1]
    exact ⟨rfl, rfl, rfl, rfl⟩
  clear hP8 hP2 hP4 hP1
  go_enter Try.func11, Try.ntmps11
  go_wp2_with (go_at_call 14; refine (HR.out _ HB.out).mono ?_; rintro e w1 ⟨rfl, hb1⟩)
  have HB1 := Lib.hid (below_trans HB.out hb1)
  have C1 := HC.out.below hb1
  have c0 := fun p => after_cell (C1.at 0 rfl (j := 0) rfl).1 (C1.lt 0 rfl) p
  have c1 := fun p => after_cell (C1.at 0 rfl (j := 1) rfl).1 (C1.lt 0 rfl) p
  have c2 := fun p => after_cell (C1.at 0 rfl (j := 2) rfl).1 (C1.lt 0 rfl) p
  have c3 := fun p => after_cell (C1.at 0 rfl (j := 3) rfl).1 (C1.lt 0 rfl) p
  have HC1 := Lib.hid C1
  clear C1 hb1 HC HR HB
  refine wp_region_after (by kernel_rfl) (by kernel_rfl) ?_
  repeat (go_big_quiet_step (first | with_reducible exact after_call HP8.out _ | with_reducible exact after_call HP2.out _ | with_reducible exact after_call HP4.out _ | with_reducible exact after_call HP1.out _))
  refine wpQuiet_nil ?_
  intro _ hw
  obtain ⟨p, rfl⟩ := hw
  have HP := Lib.hid p.is
  generalize p.to = wp at *
  obtain ⟨S0, hS0⟩ : ∃ S0, ByteArray.mk #[114, 116, 99, 108] ++ P8 ++ P2 ++ P4 ++ P1 = S0 := ⟨_, rfl⟩
  rw [hS0]
  have H0 : Hid (S0.data.toList = ahead5 h ++ spansB (N.take 0)) := by
    rw [HA.out, HQ.out.1, HQ.out.2.1, HQ.out.2.2.1, HQ.out.2.2.2, ← hS0, List.take_zero]
    simp only [list_append, spansB, List.flatMap_nil, List.append_nil, List.nil_append]
    exact rfl
  have HB2 := Lib.hid (below_trans HB1.out HP.out)
  replace HC1 := Lib.hid (HC1.out.below HP.out)
  clear hS0 c0 c1 c2 c3 HP8 HP2 HP4 HP1 HQ z8 z2 z4 z1 u1 u2 u3 HP HB1 HA
  go_wp2
  go_loopw [5, 6] (fun s i wr => ∃ (k : Nat) (S : ByteArray), i = .int .i64 k ∧ s = .string S ∧ k ≤ len ∧ Hid (S.data.toList = ahead5 h ++ spansB (N.take k)) ∧ Below wp.heap.size wp wr) (fun _ i _ => (len - intOf i).toNat)
  case atStart => exact ⟨0, S0, rfl, rfl, by omega, H0, Below.refl _ _⟩
  case round =>
    obtain ⟨k, S, rfl, rfl, hk, hS, hBr⟩ := hrel
    have C3 := HC1.out.below hBr
    have c3 := fun p => after_cell (C3.at 0 rfl (j := 3) rfl).1 (C3.lt 0 rfl) p
    have e3 := (C3.at 0 rfl (j := 3) rfl).1
    have hSz : S.size = 19 + 4 * k := by
      rw [size_list, hS.out]
      have h1 := congrArg List.length HBODY.out
      rw [List.length_append, spansB_length, HBL.out] at h1
      rw [List.length_append, spansB_length, List.length_take, HL.out]
      have := HL.out
      omega
    clear C3
    by_cases hlt : k < len
    · have hltI : (k : Int) < len := by omega
      obtain ⟨x, rfl, d0, d1⟩ := HS.out wr (below_trans HB2.out hBr) k (by rw [castS_length, HL.out]; exact hlt)
      have HT := Lib.hid (spansB_take (N := N) (k := k) (by rw [HL.out]; exact hlt))
      have hfit := HFIT.out (N.getD k (0, 0)) (by
        rw [List.getD_eq_getElem?_getD, List.getElem?_eq_getElem (by rw [HL.out]; exact hlt)]
        exact List.getElem_mem _)
      rw [castS_at] at d0 d1
      dsimp only at d0 d1
      generalize hsp : N.getD k (0, 0) = sp at *
      obtain ⟨s1, s2⟩ := sp
      dsimp only at d0 d1 HT hfit
      clear hsp
      have f0 := fun p => after_cell d0 (row_block d0) p
      have f1 := fun p => after_cell d1 (row_block d1) p
      have u4 := wrap_nat (n := s1) (by omega)
      have u5 := wrap_nat (n := s2) (by omega)
      have z1 := size_put 2 s1
      have z2 := size_put 2 s2
      have HP1 := Lib.hid (HPS.out s1 (by omega))
      have HP2 := Lib.hid (HPS.out s2 (by omega))
      generalize hP1 : ByteArray.mk (Rc2.put 2 s1).toArray = P1 at HP1 z1
      generalize hP2 : ByteArray.mk (Rc2.put 2 s2).toArray = P2 at HP2 z2
      have HQ : Hid (Rc2.put 2 s1 = P1.data.toList ∧ Rc2.put 2 s2 = P2.data.toList) := by
        rw [← hP1, ← hP2]
        exact ⟨rfl, rfl⟩
      clear hP1 hP2 hfit d0 d1
      go_wp2
      refine wp_region_after (by kernel_rfl) (by kernel_rfl) ?_
      repeat (go_big_quiet_step (first | with_reducible exact after_call HP1.out _ | with_reducible exact after_call HP2.out _))
      refine wpQuiet_nil ?_
      intro _ hw
      obtain ⟨p, rfl⟩ := hw
      have HP := Lib.hid p.is
      generalize p.to = wq at *
      obtain ⟨S', hS'⟩ : ∃ S', S ++ P1 ++ P2 = S' := ⟨_, rfl⟩
      rw [hS']
      have H1 : Hid (S'.data.toList = ahead5 h ++ spansB (N.take (k + 1))) := by
        have e : S'.data.toList = ahead5 h ++ spansB (N.take (k + 1)) := by
          rw [HT.out, HQ.out.1, HQ.out.2, ← hS', list_append, list_append, hS.out]
          simp only [List.append_assoc]
        exact e
      clear hS' f0 f1 c3 e3
      go_wp2
      exact ⟨⟨k + 1, S', by go_num, rfl, by omega, H1, below_trans hBr HP.out⟩, by simp [intOf]; omega⟩
    · obtain rfl : k = len := by omega
      have hltI : ¬ (k : Int) < k := by omega
      have HBB : Hid (S.data.toList = body h ++ List.replicate 0 0) := by
        have := hS.out
        rw [List.take_of_length_le (by rw [HL.out]; exact Nat.le_refl _), HBODY.out] at this
        rw [this]
        exact (List.append_nil _).symm
      have hb60 : (body h).length = 19 + 4 * k := by rw [HBL.out, HL.out]
      obtain ⟨m, hm⟩ : ∃ m, 19 + 4 * k = m := ⟨_, rfl⟩
      have hm1 : m ≤ 51 := by omega
      have HTX2 : Hid (text h = body h ++ List.replicate (60 - m) 0) := by rw [HTX.out, hb60, hm]; exact rfl
      rw [hm] at hb60
      have HB60 := Lib.hid hb60
      have HB3 := Lib.hid (below_trans HB2.out hBr)
      clear hb60 hlt hS c3 hBr hSz
      go_wp2
      go_loopw [5] (fun s wq => ∃ (j : Nat) (T : ByteArray), s = .string T ∧ j + m ≤ 60 ∧ Hid (T.data.toList = body h ++ List.replicate j 0) ∧ wq = wr) (fun s _ => lack s)
      case atStart => exact ⟨0, S, rfl, by omega, HBB, rfl⟩
      case round =>
        obtain ⟨j, T, rfl, hj, hT, rfl⟩ := hrel
        have hTz : T.size = m + j := by
          rw [size_list, hT.out, List.length_append, List.length_replicate, HB60.out]
        by_cases hlt : j + m < 60
        · have hTI : (T.size : Int) < 60 := by omega
          obtain ⟨T', hT'⟩ : ∃ T', T ++ ByteArray.mk #[0] = T' := ⟨_, rfl⟩
          have H1 : Hid (T'.data.toList = body h ++ List.replicate (j + 1) 0) := by
            rw [← hT', list_append, hT.out, List.replicate_succ', List.append_assoc]
            exact rfl
          have H2 : lack (.string T') < lack (.string T) := by
            have e : T'.size = T.size + 1 := by
              rw [← hT', ByteArray.size_append]
              rfl
            show 60 - T'.size < 60 - T.size
            omega
          have H3 := Lib.hid H2
          clear H2
          go_wp2
          exact ⟨⟨j + 1, T', rfl, by omega, H1, trivial⟩, H3.out⟩
        · have hTI : ¬ (T.size : Int) < 60 := by omega
          have hT60 : T.size = 60 := by omega
          have HSL := Lib.hid (HSEAL.out T hT60)
          have HHB : Hid (hdB h = sealedB T) := by
            have e : T = ⟨(text h).toArray⟩ := by
              apply ext_list
              rw [hT.out, HTX2.out, show j = 60 - m by omega]
            rw [e]
            exact rfl
          clear hTz hT60
          go_wp2_with (go_at_call 15; refine (HSL.out _).mono ?_; rintro e w16 ⟨rfl, hb16⟩)
          go_ret2
          rw [HHB.out]
          exact ⟨rfl, below_trans HB3.out hb16⟩

end Go.Proofs.Ytnknojkihjpjkaa
