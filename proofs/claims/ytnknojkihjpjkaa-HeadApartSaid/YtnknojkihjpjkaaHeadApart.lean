/-
  HeadApart: for every input the law answers true: two heads that are unlike are other sectors. Conditions: none.
-/
import Derived.Test.YtnknojkihjpjkaaHdIn
namespace Go.Proofs.Ytnknojkihjpjkaa.headApart
open Go.ChangeShapes Go.WideShapes Go.ChangeAt Go.RowKit Go.Rc5 Go.Rc6
open Go.ChangeMaps (open_string shut_string)

set_option maxRecDepth 100000 in
set_option maxHeartbeats 4000000 in
theorem long (g1 : Nat) (s1 z1 : Int) (a1 : Option Addr) (n1 c1 : Nat) (g2 : Nat) (s2 z2 : Int) (a2 : Option Addr) (n2 c2 : Nat) (w : World) (h : 20 < n1 ∨ (n1 ≤ 20 ∧ 20 < n2)) :
    Calls Try.prog 7 #[.agg #[.int .u64 (g1 : Int), .int .i64 s1, .int .i64 z1, .slice a1 n1 c1], .agg #[.int .u64 (g2 : Int), .int .i64 s2, .int .i64 z2, .slice a2 n2 c2]] w fun e w' => e = .returned (.bool true) ∧ Below w.heap.size w w' := by
  have C := ((Crew.start w).block #[.int .u64 (g1 : Int), .int .i64 s1, .int .i64 z1, .slice a1 n1 c1] 25).block #[.int .u64 (g2 : Int), .int .i64 s2, .int .i64 z2, .slice a2 n2 c2] 25
  rw [World.size_alloc] at C
  have HC := Lib.hid C
  clear C
  rcases h with h | ⟨h1, h2⟩
  · have hl' : (20 : Int) < n1 := by omega
    clear h
    go_enter Try.func7, Try.ntmps7
    go_wp2_with fail
    refine (shown_any _).mono ?_
    rintro e w1 ⟨rfl, hb1⟩
    have C := HC.out.below hb1
    have p3 := (C.at 0 rfl (j := 3) rfl).1
    have HB := Lib.hid C.bel
    clear C HC hb1
    go_wp2_with fail
    go_ret
    exact ⟨rfl, HB.out⟩
  · have hl' : ¬ (20 : Int) < n1 := by omega
    have hl2 : (20 : Int) < n2 := by omega
    clear h1 h2
    go_enter Try.func7, Try.ntmps7
    go_wp2_with fail
    refine (shown_any _).mono ?_
    rintro e w1 ⟨rfl, hb1⟩
    have C := HC.out.below hb1
    have p3 := (C.at 0 rfl (j := 3) rfl).1
    have q3 := (C.at 1 rfl (j := 3) rfl).1
    have HB := Lib.hid C.bel
    clear C HC hb1
    go_wp2_with fail
    go_ret
    exact ⟨rfl, HB.out⟩

set_option maxRecDepth 100000 in
set_option maxHeartbeats 8000000 in
theorem bad (g1 : Nat) (s1 z1 : Int) (a1 : Option Addr) (n1 c1 : Nat) (g2 : Nat) (s2 z2 : Int) (a2 : Option Addr) (n2 c2 : Nat) (w : World) (h1 : n1 ≤ 20) (h2 : n2 ≤ 20) (P Q : ByteArray) (x y : Int) (r q : Bool)
    (HP : ∀ W, Below w.heap.size w W → Calls Try.prog 10 #[.agg #[.int .u64 (g1 : Int), .int .i64 s1, .int .i64 z1, .slice a1 n1 c1]] W fun e w' => e = .returned (.tuple #[.string P, .int .i64 x]) ∧ Below W.heap.size W w')
    (HQ : ∀ W, Below w.heap.size w W → Calls Try.prog 10 #[.agg #[.int .u64 (g2 : Int), .int .i64 s2, .int .i64 z2, .slice a2 n2 c2]] W fun e w' => e = .returned (.tuple #[.string Q, .int .i64 y]) ∧ Below W.heap.size W w')
    (HR : ∀ W, Below w.heap.size w W → Calls Try.prog 13 #[.agg #[.int .u64 (g1 : Int), .int .i64 s1, .int .i64 z1, .slice a1 n1 c1]] W fun e w' => e = .returned (.bool r) ∧ Below W.heap.size W w')
    (HS : ∀ W, Below w.heap.size w W → Calls Try.prog 13 #[.agg #[.int .u64 (g2 : Int), .int .i64 s2, .int .i64 z2, .slice a2 n2 c2]] W fun e w' => e = .returned (.bool q) ∧ Below W.heap.size W w')
    (hx : (x = 1 ∧ r = false ∧ ((y = 0 ∧ q = true) ∨ (y = 1 ∧ q = false))) ∨ (x = 0 ∧ r = true ∧ y = 1 ∧ q = false)) :
    Calls Try.prog 7 #[.agg #[.int .u64 (g1 : Int), .int .i64 s1, .int .i64 z1, .slice a1 n1 c1], .agg #[.int .u64 (g2 : Int), .int .i64 s2, .int .i64 z2, .slice a2 n2 c2]] w fun e w' => e = .returned (.bool true) ∧ Below w.heap.size w w' := by
  have C := ((Crew.start w).block #[.int .u64 (g1 : Int), .int .i64 s1, .int .i64 z1, .slice a1 n1 c1] 25).block #[.int .u64 (g2 : Int), .int .i64 s2, .int .i64 z2, .slice a2 n2 c2] 25
  rw [World.size_alloc] at C
  have HC := Lib.hid C
  have hl1 : ¬ (20 : Int) < n1 := by omega
  have hl2 : ¬ (20 : Int) < n2 := by omega
  have GP := Lib.hid HP
  have GQ := Lib.hid HQ
  have GR := Lib.hid HR
  have GS := Lib.hid HS
  clear C HP HQ HR HS h1 h2
  rcases hx with ⟨rfl, rfl, ⟨rfl, rfl⟩ | ⟨rfl, rfl⟩⟩ | ⟨rfl, rfl, rfl, rfl⟩
  all_goals
    go_enter Try.func7, Try.ntmps7
    go_wp2_with fail
    refine (shown_any _).mono ?_
    rintro e w1 ⟨rfl, hb1⟩
    replace HC := Lib.hid (HC.out.below hb1)
    have p0 := (HC.out.at 0 rfl (j := 0) rfl).1
    have p1 := (HC.out.at 0 rfl (j := 1) rfl).1
    have p2 := (HC.out.at 0 rfl (j := 2) rfl).1
    have p3 := (HC.out.at 0 rfl (j := 3) rfl).1
    have q3 := (HC.out.at 1 rfl (j := 3) rfl).1
    clear hb1
    go_wp2_with fail
    refine (GP.out _ HC.out.bel).mono ?_
    rintro e w2 ⟨rfl, hb2⟩
    replace HC := Lib.hid (HC.out.below hb2)
    clear p0 p1 p2 p3 q3 hb2
    have q0 := (HC.out.at 1 rfl (j := 0) rfl).1
    have q1 := (HC.out.at 1 rfl (j := 1) rfl).1
    have q2 := (HC.out.at 1 rfl (j := 2) rfl).1
    have q3 := (HC.out.at 1 rfl (j := 3) rfl).1
    go_wp2_with fail
    refine (GQ.out _ HC.out.bel).mono ?_
    rintro e w3 ⟨rfl, hb3⟩
    replace HC := Lib.hid (HC.out.below hb3)
    clear q0 q1 q2 q3 hb3
    have p0 := (HC.out.at 0 rfl (j := 0) rfl).1
    have p1 := (HC.out.at 0 rfl (j := 1) rfl).1
    have p2 := (HC.out.at 0 rfl (j := 2) rfl).1
    have p3 := (HC.out.at 0 rfl (j := 3) rfl).1
    go_wp2_with fail
    refine (GR.out _ HC.out.bel).mono ?_
    rintro e w4 ⟨rfl, hb4⟩
    replace HC := Lib.hid (HC.out.below hb4)
    clear p0 p1 p2 p3 hb4
    have q0 := (HC.out.at 1 rfl (j := 0) rfl).1
    have q1 := (HC.out.at 1 rfl (j := 1) rfl).1
    have q2 := (HC.out.at 1 rfl (j := 2) rfl).1
    have q3 := (HC.out.at 1 rfl (j := 3) rfl).1
    go_wp2_with fail
    refine (GS.out _ HC.out.bel).mono ?_
    rintro e w5 ⟨rfl, hb5⟩
    have HB := Lib.hid (below_trans HC.out.bel hb5)
    clear hb5
    go_wp2_with fail
    go_ret
    exact ⟨rfl, HB.out⟩

set_option maxRecDepth 100000 in
set_option maxHeartbeats 8000000 in
theorem fine (g1 : Nat) (s1 z1 : Int) (a1 : Option Addr) (n1 c1 : Nat) (L1 : List SpI) (g2 : Nat) (s2 z2 : Int) (a2 : Option Addr) (n2 c2 : Nat) (L2 : List SpI) (w : World) (h1 : n1 ≤ 20) (h2 : n2 ≤ 20) (k1 : IsHead w g1 s1 z1 a1 n1 L1) (k2 : IsHead w g2 s2 z2 a2 n2 L2) (P Q : ByteArray)
    (HP : ∀ W, Below w.heap.size w W → Calls Try.prog 10 #[.agg #[.int .u64 (g1 : Int), .int .i64 s1, .int .i64 z1, .slice a1 n1 c1]] W fun e w' => e = .returned (.tuple #[.string P, .int .i64 0]) ∧ Below W.heap.size W w')
    (HQ : ∀ W, Below w.heap.size w W → Calls Try.prog 10 #[.agg #[.int .u64 (g2 : Int), .int .i64 s2, .int .i64 z2, .slice a2 n2 c2]] W fun e w' => e = .returned (.tuple #[.string Q, .int .i64 0]) ∧ Below W.heap.size W w')
    (b : Bool) (hb : (P.toList == Q.toList) = b) (hs : decide ((g1 : Int) = g2 ∧ s1 = s2 ∧ z1 = z2 ∧ L1 = L2) = b) (m1 : ((P.extract 0 4).toList == [114, 116, 99, 108]) = true) (m2 : ((Q.extract 0 4).toList == [114, 116, 99, 108]) = true) (zP : P.size = 64) (zQ : Q.size = 64) :
    Calls Try.prog 7 #[.agg #[.int .u64 (g1 : Int), .int .i64 s1, .int .i64 z1, .slice a1 n1 c1], .agg #[.int .u64 (g2 : Int), .int .i64 s2, .int .i64 z2, .slice a2 n2 c2]] w fun e w' => e = .returned (.bool true) ∧ Below w.heap.size w w' := by
  have C := ((Crew.start w).block #[.int .u64 (g1 : Int), .int .i64 s1, .int .i64 z1, .slice a1 n1 c1] 25).block #[.int .u64 (g2 : Int), .int .i64 s2, .int .i64 z2, .slice a2 n2 c2] 25
  rw [World.size_alloc] at C
  have HC := Lib.hid C
  have hl1 : ¬ (20 : Int) < n1 := by omega
  have hl2 : ¬ (20 : Int) < n2 := by omega
  have i1 : (4 : Int) ≤ P.size := by omega
  have i2 : (4 : Int) ≤ Q.size := by omega
  have bb : (b == b) = true := by simp
  have GP := Lib.hid HP
  have GQ := Lib.hid HQ
  have GA := Lib.hid (as_any (g2 : Int) s2 z2 a2 n2 c2)
  have GS : Hid (∀ W, Below w.heap.size w W → Calls Try.prog 20 #[.agg #[.int .u64 (g1 : Int), .int .i64 s1, .int .i64 z1, .slice a1 n1 c1], .agg #[.int .u64 (g2 : Int), .int .i64 s2, .int .i64 z2, .slice a2 n2 c2]] W fun e w' => e = .returned (.bool b) ∧ Below W.heap.size W w') := fun W hW => by
    have := sameH_any (g1 : Int) g2 s1 s2 z1 z2 L1 L2 a1 a2 n1 n2 c1 c2 W (SpansAt.below k1.row.2.1 hW) (SpansAt.below k2.row.2.1 hW) k1.row.1 k2.row.1 (by omega)
    rw [hs] at this
    exact this
  clear C HP HQ h1 h2 k1 k2 hs zP zQ
  go_enter Try.func7, Try.ntmps7
  go_wp2_with fail
  refine (shown_any _).mono ?_
  rintro e w1 ⟨rfl, hb1⟩
  replace HC := Lib.hid (HC.out.below hb1)
  have p0 := (HC.out.at 0 rfl (j := 0) rfl).1
  have p1 := (HC.out.at 0 rfl (j := 1) rfl).1
  have p2 := (HC.out.at 0 rfl (j := 2) rfl).1
  have p3 := (HC.out.at 0 rfl (j := 3) rfl).1
  have q3 := (HC.out.at 1 rfl (j := 3) rfl).1
  clear hb1
  go_wp2_with fail
  refine (GP.out _ HC.out.bel).mono ?_
  rintro e w2 ⟨rfl, hb2⟩
  replace HC := Lib.hid (HC.out.below hb2)
  clear p0 p1 p2 p3 q3 hb2
  have q0 := (HC.out.at 1 rfl (j := 0) rfl).1
  have q1 := (HC.out.at 1 rfl (j := 1) rfl).1
  have q2 := (HC.out.at 1 rfl (j := 2) rfl).1
  have q3 := (HC.out.at 1 rfl (j := 3) rfl).1
  go_wp2_with fail
  refine (GQ.out _ HC.out.bel).mono ?_
  rintro e w3 ⟨rfl, hb3⟩
  replace HC := Lib.hid (HC.out.below hb3)
  clear q0 q1 q2 q3 hb3
  have p0 := fun p => after_cell (HC.out.at 0 rfl (j := 0) rfl).1 (HC.out.lt 0 rfl) p
  have p1 := fun p => after_cell (HC.out.at 0 rfl (j := 1) rfl).1 (HC.out.lt 0 rfl) p
  have p2 := fun p => after_cell (HC.out.at 0 rfl (j := 2) rfl).1 (HC.out.lt 0 rfl) p
  have p3 := fun p => after_cell (HC.out.at 0 rfl (j := 3) rfl).1 (HC.out.lt 0 rfl) p
  have q0 := fun p => after_cell (HC.out.at 1 rfl (j := 0) rfl).1 (HC.out.lt 1 rfl) p
  have q1 := fun p => after_cell (HC.out.at 1 rfl (j := 1) rfl).1 (HC.out.lt 1 rfl) p
  have q2 := fun p => after_cell (HC.out.at 1 rfl (j := 2) rfl).1 (HC.out.lt 1 rfl) p
  have q3 := fun p => after_cell (HC.out.at 1 rfl (j := 3) rfl).1 (HC.out.lt 1 rfl) p
  have FS := Lib.hid (fun p => after_of (W := w3) (fun W hW => GS.out W (below_trans HC.out.bel hW)) p)
  have FA := Lib.hid (fun p => after_of (W := w3) (fun W _ => GA.out W) p)
  go_wp2_with fail
  refine wp_region_after (by kernel_rfl) (by kernel_rfl) ?_
  repeat (go_big_quiet_step (first | with_reducible exact FA.out _ | with_reducible exact FS.out _))
  refine wpQuiet_nil ?_
  intro _ hw
  obtain ⟨p, rfl⟩ := hw
  have HB := Lib.hid (below_trans HC.out.bel p.is)
  generalize p.to = wp at *
  go_wp2
  go_ret
  exact ⟨rfl, HB.out⟩

theorem first_four (h : Hd) : (((hdB h).extract 0 4).toList == [114, 116, 99, 108]) = true := by
  obtain ⟨r, hr⟩ := hdB_magic h
  rw [extract_take, hr, beq_iff_eq, ByteArray.toList_eq]
  rfl

theorem walk (g1 : Nat) (s1 z1 : Int) (a1 : Option Addr) (n1 c1 : Nat) (L1 : List SpI) (g2 : Nat) (s2 z2 : Int) (a2 : Option Addr) (n2 c2 : Nat) (L2 : List SpI) (w : World) (k1 : IsHead w g1 s1 z1 a1 n1 L1) (k2 : IsHead w g2 s2 z2 a2 n2 L2) :
    Calls Try.prog 7 #[.agg #[.int .u64 (g1 : Int), .int .i64 s1, .int .i64 z1, .slice a1 n1 c1], .agg #[.int .u64 (g2 : Int), .int .i64 s2, .int .i64 z2, .slice a2 n2 c2]] w fun e w' => e = .returned (.bool true) ∧ Below w.heap.size w w' := by
  by_cases h1 : n1 ≤ 20
  · by_cases h2 : n2 ≤ 20
    · obtain ⟨P, x, r, HP, _, HR, _, hP⟩ := k1.puts c1
      obtain ⟨Q, y, q, HQ, _, HS, _, hQ⟩ := k2.puts c2
      rcases hP with ⟨rfl, rfl, d1, o1, i1, rfl⟩ | ⟨rfl, rfl, _, _⟩
      · rcases hQ with ⟨rfl, rfl, d2, o2, i2, rfl⟩ | ⟨rfl, rfl, _, _⟩
        · refine fine g1 s1 z1 a1 n1 c1 L1 g2 s2 z2 a2 n2 c2 L2 w h1 h2 k1 k2 _ _ HP HQ _ rfl ?_ (first_four d1) (first_four d2) (hdB_size d1 o1) (hdB_size d2 o2)
          rw [Bool.eq_iff_iff, decide_eq_true_eq, beq_iff_eq, ByteArray.toList_eq, ByteArray.toList_eq]
          constructor
          · rintro ⟨e1, e2, e3, e4⟩
            have e : d1 = d2 := by
              have f1 : d1.gen = d2.gen := by have := i1.gen; have := i2.gen; omega
              have f2 : d1.sectors = d2.sectors := by have := i1.sectors; have := i2.sectors; omega
              have f3 : d1.size = d2.size := by have := i1.size; have := i2.size; omega
              have f4 : d1.spans = d2.spans := castS_inj (i1.spans.symm.trans (e4.trans i2.spans))
              cases d1
              cases d2
              simp only at f1 f2 f3 f4
              rw [f1, f2, f3, f4]
            rw [e]
          · intro e
            have e := hdB_inj o1 o2 (ext_list e)
            subst e
            exact ⟨by rw [i1.gen, i2.gen], by rw [i1.sectors, i2.sectors], by rw [i1.size, i2.size], by rw [i1.spans, i2.spans]⟩
        · exact bad g1 s1 z1 a1 n1 c1 g2 s2 z2 a2 n2 c2 w h1 h2 _ _ _ _ _ _ HP HQ HR HS (.inr ⟨rfl, rfl, rfl, rfl⟩)
      · rcases hQ with ⟨rfl, rfl, _⟩ | ⟨rfl, rfl, _, _⟩
        · exact bad g1 s1 z1 a1 n1 c1 g2 s2 z2 a2 n2 c2 w h1 h2 _ _ _ _ _ _ HP HQ HR HS (.inl ⟨rfl, rfl, .inl ⟨rfl, rfl⟩⟩)
        · exact bad g1 s1 z1 a1 n1 c1 g2 s2 z2 a2 n2 c2 w h1 h2 _ _ _ _ _ _ HP HQ HR HS (.inl ⟨rfl, rfl, .inr ⟨rfl, rfl⟩⟩)
    · exact long g1 s1 z1 a1 n1 c1 g2 s2 z2 a2 n2 c2 w (.inr ⟨h1, by omega⟩)
  · exact long g1 s1 z1 a1 n1 c1 g2 s2 z2 a2 n2 c2 w (.inl (by omega))

set_option maxRecDepth 100000 in
theorem lifted (os : Os) (started : os.Started) (H : Type) (enc : TypeId × Value → H) :
    ReturnsInHanded {} Try.checked os 7 .any (Rows.headApartSpec.pre6 enc Try.prog Try.f7 Rows.headApartRow.domain false) (Rows.headApartSpec.post enc Try.prog Try.f7 false true false false) := by
  refine returnsInHanded_of_change (C := Try.checked) own started (by kernel_rfl) Try.func7
    (ChangeSpec.witness6 (enc := enc) (C := Try.checked) false ⟨#[], #[.agg #[.int .u64 0, .int .i64 0, .int .i64 0, .slice none 0 0], .agg #[.int .u64 0, .int .i64 0, .int .i64 0, .slice none 0 0]], []⟩ 8 (by kernel_rfl) (by kernel_rfl) (by kernel_rfl) (by kernel_rfl)) ?_
  intro W base args ds gs before hval0 hW _ _
  have hval : ∀ (j : Nat) t v, Try.f7.params[j]? = some t → args[j]? = some v → Value.okWide Try.prog W .any base t v := hval0
  have hW' := hW
  obtain ⟨p, q, hA0, hV, rfl, hfz, hnd⟩ := hW
  have hA : DataW.TrodAll enc Try.prog W 0 (fun _ => true) true Try.f7.params.toList args.toList ds p := hA0
  rw [Try.params7] at hA hval
  obtain ⟨v0, vs0, d0, ds0, p0, q0, hargs, rfl, rfl, h0, r0⟩ := trodAll_cons hA
  obtain ⟨v1, vs1, d1, ds1, p1, q1, rfl, rfl, rfl, h1, r1⟩ := trodAll_cons r0
  obtain ⟨rfl, rfl, rfl⟩ := trodAll_nil r1
  obtain rfl : args = #[v0, v1] := by cases args; simp_all
  obtain ⟨rfl, rfl⟩ := trodVars_none hV
  have k0 := h0
  have lt0 : ∀ x ∈ p0, x.block < W.heap.size := by obtain ⟨m, hm⟩ := k0; exact DataW.trod_lt m _ _ _ hm
  obtain ⟨g0, s0, z0, a0, len0, cap0, l0, rfl, w0⟩ := open_head (hval 0 25 v0 rfl rfl) h0
  have k1 := h1
  have lt1 : ∀ x ∈ p1, x.block < W.heap.size := by obtain ⟨m, hm⟩ := k1; exact DataW.trod_lt m _ _ _ hm
  obtain ⟨g1, s1, z1, a1, len1, cap1, l1, rfl, w1⟩ := open_head (hval 1 25 v1 rfl rfl) h1
  clear hA0 hval0
  refine (walk g0 s0 z0 a0 len0 cap0 l0 g1 s1 z1 a1 len1 cap1 l1 W w0 w1).mono fun e W' ⟨he, bel⟩ => ?_
  subst he
  exact ⟨_, rfl, _, _, _, [], _, [], hW', trodAll_mk1 (shut_bool Try.underlying4 _), (trodAll_cons_mk (Below.trod laidOut (by kernel_rfl) (of_decide_eq_true (by kernel_rfl)) k0 bel lt0) (trodAll_cons_mk (Below.trod laidOut (by kernel_rfl) (of_decide_eq_true (by kernel_rfl)) k1 bel lt1) trodAll_mk0)), rfl, bel.frame _, fun h => by cases h⟩

theorem holds : Rows.HeadApartSaid :=
  OpenClaim.holds_of_wide 7 Try.f7 rfl rfl rfl rfl rfl rfl rfl ⟨rfl, rfl, rfl, rfl, rfl⟩ rfl rfl rfl rfl rfl (by kernel_rfl) Try.func7 (by kernel_rfl)
    (of_decide_eq_true (by kernel_rfl)) (by unfold Func.isWrapper; first | (rw [if_pos (by decide +kernel)]; kernel_rfl) | (rw [if_neg (by decide +kernel)]; exact ⟨rfl, rfl⟩))
    (fun os started H enc _ => lifted os started H enc)

end Go.Proofs.Ytnknojkihjpjkaa.headApart
