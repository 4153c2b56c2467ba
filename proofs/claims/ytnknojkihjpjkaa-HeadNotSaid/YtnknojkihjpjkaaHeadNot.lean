/-
  HeadNot: for every input the law answers true: noughts, a head cut short, one with more behind, and one whose sealed bytes are another magic's, are none. Conditions: none.
-/
import Derived.Test.YtnknojkihjpjkaaHdNot
import Derived.Deep.CutRange
import Derived.RegionTactic
import Derived.BigRegion
namespace Go.Proofs.Ytnknojkihjpjkaa.headNot
open Go.ChangeShapes Go.WideShapes Go.ChangeAt Go.RowKit Go.Rc5 Go.Rc6
open Go.ChangeMaps (open_string shut_string)

set_option maxRecDepth 100000 in
set_option maxHeartbeats 4000000 in
theorem long (g : Nat) (s z : Int) (a : Option Addr) (n c : Nat) (p q : Int) (w : World) (h : 20 < n) :
    Calls Try.prog 8 #[.agg #[.int .u64 (g : Int), .int .i64 s, .int .i64 z, .slice a n c], .int .i64 p, .int .u8 q] w fun e w' => e = .returned (.bool true) ∧ Below w.heap.size w w' := by
  have HC := Lib.hid ((Crew.start w).block #[.int .u64 (g : Int), .int .i64 s, .int .i64 z, .slice a n c] 25)
  have hl' : (20 : Int) < n := by omega
  clear h
  go_enter Try.func8, Try.ntmps8
  go_wp2_with fail
  refine (shown_any _).mono ?_
  rintro e w1 ⟨rfl, hb1⟩
  have C := HC.out.below hb1
  have p3 := (C.at 0 rfl (j := 3) rfl).1
  have HB := Lib.hid C.bel
  clear C HC hb1
  go_wp2_with fail
  go_ret
  exact ⟨rfl, HB.out⟩

set_option maxRecDepth 100000 in
set_option maxHeartbeats 4000000 in
theorem not (g : Nat) (s z : Int) (a : Option Addr) (n c : Nat) (p q : Int) (w : World) (h : n ≤ 20) (P : ByteArray)
    (HP : ∀ W, Below w.heap.size w W → Calls Try.prog 10 #[.agg #[.int .u64 (g : Int), .int .i64 s, .int .i64 z, .slice a n c]] W fun e w' => e = .returned (.tuple #[.string P, .int .i64 1]) ∧ Below W.heap.size W w') :
    Calls Try.prog 8 #[.agg #[.int .u64 (g : Int), .int .i64 s, .int .i64 z, .slice a n c], .int .i64 p, .int .u8 q] w fun e w' => e = .returned (.bool true) ∧ Below w.heap.size w w' := by
  have HC := Lib.hid ((Crew.start w).block #[.int .u64 (g : Int), .int .i64 s, .int .i64 z, .slice a n c] 25)
  have hl' : ¬ (20 : Int) < n := by omega
  have GP := Lib.hid HP
  clear h HP
  go_enter Try.func8, Try.ntmps8
  go_wp2_with fail
  refine (shown_any _).mono ?_
  rintro e w1 ⟨rfl, hb1⟩
  replace HC := Lib.hid (HC.out.below hb1)
  have p0 := (HC.out.at 0 rfl (j := 0) rfl).1
  have p1 := (HC.out.at 0 rfl (j := 1) rfl).1
  have p2 := (HC.out.at 0 rfl (j := 2) rfl).1
  have p3 := (HC.out.at 0 rfl (j := 3) rfl).1
  clear hb1
  go_wp2_with fail
  refine (GP.out _ HC.out.bel).mono ?_
  rintro e w2 ⟨rfl, hb2⟩
  have HB := Lib.hid (below_trans HC.out.bel hb2)
  clear HC hb2
  go_wp2_with fail
  go_ret
  exact ⟨rfl, HB.out⟩

set_option maxRecDepth 100000 in
set_option maxHeartbeats 16000000 in
theorem fine (g : Nat) (s z : Int) (a : Option Addr) (n c : Nat) (p : Int) (q : Nat) (hq : q < 256) (w : World) (h : n ≤ 20) (d : Hd) (o : d.Ok)
    (HP : ∀ W, Below w.heap.size w W → Calls Try.prog 10 #[.agg #[.int .u64 (g : Int), .int .i64 s, .int .i64 z, .slice a n c]] W fun e w' => e = .returned (.tuple #[.string (hdB d), .int .i64 0]) ∧ Below W.heap.size W w')
    (m : Int) (k : Nat) (e1 : min p 3 = m) (e2 : max 0 m = (k : Int)) (hk : k < 4) (x : UInt8) (hx : (text d)[k]? = some x) :
    Calls Try.prog 8 #[.agg #[.int .u64 (g : Int), .int .i64 s, .int .i64 z, .slice a n c], .int .i64 p, .int .u8 (q : Int)] w fun e w' => e = .returned (.bool true) ∧ Below w.heap.size w w' := by
  have HC := Lib.hid ((Crew.start w).block #[.int .u64 (g : Int), .int .i64 s, .int .i64 z, .slice a n c] 25)
  have hl' : ¬ (20 : Int) < n := by omega
  have GP := Lib.hid HP
  have GZ := Lib.hid Take_noughts
  have GC := Lib.hid Choose_noughts
  have hz := hdB_size d o
  have h60 := head_text d o
  have G1 := Lib.hid (Take_len ((hdB d).extract 0 63) (by rw [ByteArray.size_extract, hz]; decide))
  have G2 := Lib.hid (Take_len (hdB d ++ ⟨#[120]⟩) (by rw [ByteArray.size_append, hz]; decide))
  have hl := text_length d o.few
  have G3 := Take_other d o k hk (UInt8.ofNat q)
  have G4 := PutR_seal ⟨((text d).set k (UInt8.ofNat q)).toArray⟩ (by
    show ((text d).set k (UInt8.ofNat q)).toArray.size + 4 ≤ _
    rw [List.size_toArray, List.length_set, hl]
    decide)
  have hqv : (UInt8.ofNat q).toNat = q := by rw [UInt8.toNat_ofNat']; omega
  have HQV := Lib.hid hqv
  obtain ⟨b, er, hbe, hbx⟩ : ∃ (b : Bool) (er : Int), (if (text d)[k]? = some (UInt8.ofNat q) then (0 : Int) else 2) = er ∧ ((b = true ∧ er = 0 ∧ (((x.toNat : Int) == (q : Int)) = true)) ∨ (b = false ∧ er = 2 ∧ (((x.toNat : Int) == (q : Int)) = false))) := by
    rw [hx]
    by_cases e : x = UInt8.ofNat q
    · exact ⟨true, 0, by rw [e, if_pos rfl], .inl ⟨rfl, rfl, by rw [e, hqv]; simp⟩⟩
    · refine ⟨false, 2, by rw [if_neg (fun h => e (Option.some.inj h))], .inr ⟨rfl, rfl, ?_⟩⟩
      rw [beq_eq_false_iff_ne]
      intro e2
      refine e (UInt8.toNat_inj.1 ?_)
      rw [hqv]
      omega
  rw [hbe] at G3
  have hmk : ∀ W, (Instr.makeSlice 48 (.int .i64 64) (.int .i64 64)).run Try.prog W = .ok (.slice (some ⟨W.heap.size, 0, none⟩) 64 64) (W.alloc (.cells (List.replicate 64 (.int .u8 0)).toArray 5)) := fun W => make_own (t := 48) (e := 5) (z := .int .u8 0) (bytes := 1) Try.underlying48 (by kernel_rfl) rfl 64 (by omega) (by omega) W
  have HZR := Lib.hid (fun W => BRow.made W 64)
  have hcv := fun W => run_bytes_of_string (P := Try.prog) W 9 48 5 ⟨(text d).toArray⟩ Try.underlying9 Try.underlying48 Try.underlying5
  have z60 : (ByteArray.mk (text d).toArray).size = 60 := by
    show (text d).toArray.size = 60
    rw [List.size_toArray, hl]
  have HLT : Hid (k < (text d).length ∧ (ByteArray.mk (text d).toArray).data.toList = text d) := ⟨by omega, rfl⟩
  have HXX : Hid (∀ hh : k < (text d).length, (text d)[k]'hh = x) := fun hh => by
    rw [List.getElem?_eq_getElem hh] at hx
    exact Option.some.inj hx
  obtain ⟨S, hS⟩ : ∃ S, ByteArray.mk ((text d).set k (UInt8.ofNat q)).toArray = S := ⟨_, rfl⟩
  rw [hS] at G3 G4
  have HSS := Lib.hid hS
  have HG3 := Lib.hid G3
  have HG4 := Lib.hid G4
  obtain ⟨T, hT⟩ : ∃ T, ByteArray.mk (text d).toArray = T := ⟨_, rfl⟩
  rw [hT] at h60 hcv z60 HLT
  generalize hdB d = Q at *
  have i1 : (63 : Int) ≤ Q.size := by omega
  have i2 : (60 : Int) ≤ Q.size := by omega
  have i3 : (Q.size : Int) = 64 := by omega
  have hadd : (9223372036854775807 < Q.size + 1) = False := eq_false (by omega)
  have hk60 : (k : Int) < 60 := by omega
  have hk61 : k < 60 := by omega
  clear HP G3 G4 hS hT hbe hx hl hqv h hz
  go_enter Try.func8, Try.ntmps8
  go_wp2_with fail
  refine (shown_any _).mono ?_
  rintro e w1 ⟨rfl, hb1⟩
  replace HC := Lib.hid (HC.out.below hb1)
  have p0 := (HC.out.at 0 rfl (j := 0) rfl).1
  have p1 := (HC.out.at 0 rfl (j := 1) rfl).1
  have p2 := (HC.out.at 0 rfl (j := 2) rfl).1
  have p3 := (HC.out.at 0 rfl (j := 3) rfl).1
  clear hb1
  go_wp2_with fail
  refine (GP.out _ HC.out.bel).mono ?_
  rintro e w2 ⟨rfl, hb2⟩
  have HB := Lib.hid (ba (below_trans HC.out.bel hb2) (.cells (List.replicate 64 (.int .u8 0)).toArray 5))
  have HR := Lib.hid (HZR.out w2)
  have hbk := HR.out.back 64 64 (by rw [List.length_replicate])
  rw [show ByteArray.mk (List.replicate 64 (0 : UInt8)).toArray = noughts from rfl] at hbk
  have hlt : w2.heap.size < (w2.alloc (.cells (List.replicate 64 (.int .u8 0)).toArray 5)).heap.size := by simp
  have HLW := Lib.hid hlt
  clear HC hb2 p0 p1 p2 p3 hlt
  generalize (List.replicate 64 (Value.int .u8 0)).toArray = ZC at *
  go_wp2_with fail
  refine (GZ.out _).mono ?_
  rintro e w3 ⟨rfl, hb3⟩
  replace HB := Lib.hid (ba (below_trans HB.out hb3) (.cells #[.int .u64 0, .int .i64 0, .int .i64 0, .slice none 0 0] 25))
  replace HR := Lib.hid ((HR.out.later HLW.out hb3).later (Nat.lt_of_lt_of_le HLW.out hb3.size) ((Below.refl _ w3).alloc (Nat.le_refl _) (.cells #[.int .u64 0, .int .i64 0, .int .i64 0, .slice none 0 0] 25)))
  replace HLW : Hid (w2.heap.size < (w3.alloc (.cells #[.int .u64 0, .int .i64 0, .int .i64 0, .slice none 0 0] 25)).heap.size) := by
    have := HLW.out
    have := hb3.size
    rw [World.size_alloc]
    exact Nat.lt_succ_of_lt (by omega)
  clear hb3 hbk
  go_wp2_with fail
  refine (G1.out _).mono ?_
  rintro e w4 ⟨rfl, hb4⟩
  replace HB := Lib.hid (ba (below_trans HB.out hb4) (.cells #[.int .u64 0, .int .i64 0, .int .i64 0, .slice none 0 0] 25))
  replace HR := Lib.hid ((HR.out.later HLW.out hb4).later (Nat.lt_of_lt_of_le HLW.out hb4.size) ((Below.refl _ w4).alloc (Nat.le_refl _) (.cells #[.int .u64 0, .int .i64 0, .int .i64 0, .slice none 0 0] 25)))
  replace HLW : Hid (w2.heap.size < (w4.alloc (.cells #[.int .u64 0, .int .i64 0, .int .i64 0, .slice none 0 0] 25)).heap.size) := by
    have := HLW.out
    have := hb4.size
    rw [World.size_alloc]
    exact Nat.lt_succ_of_lt (by omega)
  clear hb4
  go_wp2_with fail
  refine (G2.out _).mono ?_
  rintro e w5 ⟨rfl, hb5⟩
  replace HB := Lib.hid (ba (below_trans HB.out hb5) (.cells #[.int .u64 0, .int .i64 0, .int .i64 0, .slice none 0 0] 25))
  replace HR := Lib.hid ((HR.out.later HLW.out hb5).later (Nat.lt_of_lt_of_le HLW.out hb5.size) ((Below.refl _ w5).alloc (Nat.le_refl _) (.cells #[.int .u64 0, .int .i64 0, .int .i64 0, .slice none 0 0] 25)))
  replace HLW : Hid (w2.heap.size < (w5.alloc (.cells #[.int .u64 0, .int .i64 0, .int .i64 0, .slice none 0 0] 25)).heap.size) := by
    have := HLW.out
    have := hb5.size
    rw [World.size_alloc]
    exact Nat.lt_succ_of_lt (by omega)
  clear hb5
  have hbk := HR.out.back 64 64 (by rw [List.length_replicate])
  rw [show ByteArray.mk (List.replicate 64 (0 : UInt8)).toArray = noughts from rfl] at hbk
  go_wp2_with fail
  refine (GC.out _).mono ?_
  rintro e w6 ⟨a6, c6, rfl, hb6⟩
  replace HB := Lib.hid (ba (below_trans HB.out hb6) (.cells #[.int .u64 0, .int .i64 0, .int .i64 0, .slice a6 0 c6] 25))
  clear hb6 hbk HR HLW
  go_upto_region 14 with fail
  have hst := BRow.start (w6.alloc (.cells #[.int .u64 0, .int .i64 0, .int .i64 0, .slice a6 0 c6] 25)) T (grownCap (w6.alloc (.cells #[.int .u64 0, .int .i64 0, .int .i64 0, .slice a6 0 c6] 25)) 60 0 5)
  rw [World.size_alloc, HLT.out.2] at hst
  generalize grownCap (w6.alloc (.cells #[.int .u64 0, .int .i64 0, .int .i64 0, .slice a6 0 c6] 25)) 60 0 5 = cap at *
  have hsz : w.heap.size ≤ w6.heap.size + 1 := by
    have := HB.out.size
    rw [World.size_alloc] at this
    exact this
  replace HB := Lib.hid (ba HB.out (.cells (bytesRow T cap) 5 ((bytesRow T cap).size, (bytesRow T cap).size + 1)))
  have ck := hst.1 k HLT.out.1
  rw [HXX.out HLT.out.1] at ck
  have fk := hst.2 k HLT.out.1
  have hst2 : BRow (w6.heap.size + 1) (text d) ((w6.alloc (.cells #[.int .u64 0, .int .i64 0, .int .i64 0, .slice a6 0 c6] 25)).alloc (.cells (bytesRow T cap) 5 ((bytesRow T cap).size, (bytesRow T cap).size + 1))) := hst
  have hput := hst2.put k HLT.out.1 (UInt8.ofNat q)
  have hbk2 := (BRow.drew hput).back cap 60 (by rw [List.length_set, ← HLT.out.2, ← size_list, z60])
  rw [HQV.out, HSS.out] at hbk2
  replace HB := Lib.hid (Below.drew (HB.out.setCell (p := ⟨w6.heap.size + 1, k, none⟩) hsz (.int .u8 (q : Int))))
  clear hst hst2 hput hcv hmk
  rcases hbx with ⟨rfl, rfl, hbx⟩ | ⟨rfl, rfl, hbx⟩
  all_goals
    go_wp2_with fail
    refine (HG4.out _).mono ?_
    rintro e w8 ⟨rfl, hb8⟩
    replace HB := Lib.hid (below_trans HB.out hb8)
    clear hb8
    go_wp2_with fail
    refine (HG3.out _).mono ?_
    rintro e w9 ⟨g9, s9, z9, a9, n9, c9, rfl, hb9⟩
    replace HB := Lib.hid (ba (below_trans HB.out hb9) (.cells #[.int .u64 g9, .int .i64 s9, .int .i64 z9, .slice a9 n9 c9] 25))
    clear hb9
    go_wp2_with fail
    go_ret
    exact ⟨rfl, HB.out⟩

theorem walk (g : Nat) (s z : Int) (a : Option Addr) (n c : Nat) (L : List SpI) (p : Int) (_ : (Lit.int .i64 p).wf = true) (q : Int) (hq : (Lit.int .u8 q).wf = true) (w : World) (h : IsHead w g s z a n L) :
    Calls Try.prog 8 #[.agg #[.int .u64 (g : Int), .int .i64 s, .int .i64 z, .slice a n c], .int .i64 p, .int .u8 q] w fun e w' => e = .returned (.bool true) ∧ Below w.heap.size w w' := by
  by_cases hl : n ≤ 20
  · obtain ⟨P, x, r, HP, _, _, _, hP⟩ := h.puts c
    rcases hP with ⟨rfl, rfl, d, o, _, rfl⟩ | ⟨rfl, rfl, _, _⟩
    · obtain ⟨q, rfl, hq2⟩ := nat_of8 hq
      obtain ⟨y, hy, _⟩ := text_at d (max 0 (min p 3)).toNat (by omega)
      exact fine g s z a n c p q hq2 w hl d o HP (min p 3) (max 0 (min p 3)).toNat rfl (by omega) (by omega) y hy
    · exact not g s z a n c p q w hl P HP
  · exact long g s z a n c p q w (by omega)

set_option maxRecDepth 100000 in
theorem lifted (os : Os) (started : os.Started) (H : Type) (enc : TypeId × Value → H) :
    ReturnsInHanded {} Try.checked os 8 .any (Rows.headNotSpec.pre6 enc Try.prog Try.f8 Rows.headNotRow.domain false) (Rows.headNotSpec.post enc Try.prog Try.f8 false true false false) := by
  refine returnsInHanded_of_change (C := Try.checked) own started (by kernel_rfl) Try.func8
    (ChangeSpec.witness6 (enc := enc) (C := Try.checked) false ⟨#[], #[.agg #[.int .u64 0, .int .i64 0, .int .i64 0, .slice none 0 0], .int .i64 0, .int .u8 0], []⟩ 8 (by kernel_rfl) (by kernel_rfl) (by kernel_rfl) (by kernel_rfl)) ?_
  intro W base args ds gs before hval0 hW _ _
  have hval : ∀ (j : Nat) t v, Try.f8.params[j]? = some t → args[j]? = some v → Value.okWide Try.prog W .any base t v := hval0
  have hW' := hW
  obtain ⟨p, q, hA0, hV, rfl, hfz, hnd⟩ := hW
  have hA : DataW.TrodAll enc Try.prog W 0 (fun _ => true) true Try.f8.params.toList args.toList ds p := hA0
  rw [Try.params8] at hA hval
  obtain ⟨v0, vs0, d0, ds0, p0, q0, hargs, rfl, rfl, h0, r0⟩ := trodAll_cons hA
  obtain ⟨v1, vs1, d1, ds1, p1, q1, rfl, rfl, rfl, h1, r1⟩ := trodAll_cons r0
  obtain ⟨v2, vs2, d2, ds2, p2, q2, rfl, rfl, rfl, h2, r2⟩ := trodAll_cons r1
  obtain ⟨rfl, rfl, rfl⟩ := trodAll_nil r2
  obtain rfl : args = #[v0, v1, v2] := by cases args; simp_all
  obtain ⟨rfl, rfl⟩ := trodVars_none hV
  have k0 := h0
  have lt0 : ∀ x ∈ p0, x.block < W.heap.size := by obtain ⟨m, hm⟩ := k0; exact DataW.trod_lt m _ _ _ hm
  obtain ⟨g0, s0, z0, a0, len0, cap0, l0, rfl, w0⟩ := open_head (hval 0 25 v0 rfl rfl) h0
  obtain ⟨a1, rfl, rfl, rfl, w1⟩ := open_int Try.underlying3 (hval 1 3 v1 rfl rfl) h1
  obtain ⟨a2, rfl, rfl, rfl, w2⟩ := open_int Try.underlying5 (hval 2 5 v2 rfl rfl) h2
  clear hA0 hval0
  refine (walk g0 s0 z0 a0 len0 cap0 l0 a1 w1 a2 w2 W w0).mono fun e W' ⟨he, bel⟩ => ?_
  subst he
  exact ⟨_, rfl, _, _, _, [], _, [], hW', trodAll_mk1 (shut_bool Try.underlying4 _), (trodAll_cons_mk (Below.trod laidOut (by kernel_rfl) (of_decide_eq_true (by kernel_rfl)) k0 bel lt0) (trodAll_cons_mk (shut_int Try.underlying3 w1) (trodAll_cons_mk (shut_int Try.underlying5 w2) trodAll_mk0))), rfl, bel.frame _, fun h => by cases h⟩

theorem holds : Rows.HeadNotSaid :=
  OpenClaim.holds_of_wide 8 Try.f8 rfl rfl rfl rfl rfl rfl rfl ⟨rfl, rfl, rfl, rfl, rfl⟩ rfl rfl rfl rfl rfl (by kernel_rfl) Try.func8 (by kernel_rfl)
    (of_decide_eq_true (by kernel_rfl)) (by unfold Func.isWrapper; first | (rw [if_pos (by decide +kernel)]; kernel_rfl) | (rw [if_neg (by decide +kernel)]; exact ⟨rfl, rfl⟩))
    (fun os started H enc _ => lifted os started H enc)

end Go.Proofs.Ytnknojkihjpjkaa.headNot
