/-
  HeadBack: for every input the law answers true: a head that was put is taken, and a sector that was taken is put. Conditions: none.
-/
import Derived.Test.YtnknojkihjpjkaaHdIn
namespace Go.Proofs.Ytnknojkihjpjkaa.headBack
open Go.ChangeShapes Go.WideShapes Go.ChangeAt Go.RowKit Go.Rc5 Go.Rc6
open Go.ChangeMaps (open_string shut_string)

set_option maxRecDepth 100000 in
set_option maxHeartbeats 4000000 in
theorem long (g : Nat) (s z : Int) (a : Option Addr) (n c : Nat) (t : ByteArray) (w : World) (h : 20 < n ∨ (n ≤ 20 ∧ 300 < t.size)) :
    Calls Try.prog 5 #[.agg #[.int .u64 (g : Int), .int .i64 s, .int .i64 z, .slice a n c], .string t] w fun e w' => e = .returned (.bool true) ∧ Below w.heap.size w w' := by
  have HC := Lib.hid ((Crew.start w).block #[.int .u64 (g : Int), .int .i64 s, .int .i64 z, .slice a n c] 25)
  rcases h with h | ⟨h1, h2⟩
  · have hl' : (20 : Int) < n := by omega
    clear h
    go_enter Try.func5, Try.ntmps5
    go_wp2_with fail
    refine (shown_any _).mono ?_
    rintro e w1 ⟨rfl, hb1⟩
    have C := HC.out.below hb1
    have p3 := (C.at 0 rfl (j := 3) rfl).1
    have HB := Lib.hid C.bel
    clear C HC hb1
    go_wp2_with fail
    go_ret
    exact ⟨rfl, HB.out⟩
  · have hl' : ¬ (20 : Int) < n := by omega
    have hl2 : (300 : Int) < t.size := by omega
    clear h1 h2
    go_enter Try.func5, Try.ntmps5
    go_wp2_with fail
    refine (shown_any _).mono ?_
    rintro e w1 ⟨rfl, hb1⟩
    have C := HC.out.below hb1
    have p3 := (C.at 0 rfl (j := 3) rfl).1
    have HB := Lib.hid C.bel
    clear C HC hb1
    go_wp2_with fail
    go_ret
    exact ⟨rfl, HB.out⟩

set_option maxRecDepth 100000 in
set_option maxHeartbeats 16000000 in
theorem putHead (g : Nat) (s z : Int) (a : Option Addr) (n c : Nat) (L : List SpI) (t : ByteArray) (w : World) (hn : n ≤ 20) (ht : t.size ≤ 300) (k : IsHead w g s z a n L) (P : ByteArray)
    (HP : ∀ W, Below w.heap.size w W → Calls Try.prog 10 #[.agg #[.int .u64 (g : Int), .int .i64 s, .int .i64 z, .slice a n c]] W fun e w' => e = .returned (.tuple #[.string P, .int .i64 0]) ∧ Below W.heap.size W w')
    (d1 : Hd) (o1 : d1.Ok) (i1 : Is g s z L d1) (hP : P = hdB d1)
    (d2 : Hd) (o2 : d2.Ok) (hT : t = hdB d2) :
    Calls Try.prog 5 #[.agg #[.int .u64 (g : Int), .int .i64 s, .int .i64 z, .slice a n c], .string t] w fun e w' => e = .returned (.bool true) ∧ Below w.heap.size w w' := by
  have hl1 : ¬ (20 : Int) < n := by omega
  have hl2 : ¬ (300 : Int) < t.size := by omega
  have HC := Lib.hid ((Crew.start w).block #[.int .u64 (g : Int), .int .i64 s, .int .i64 z, .slice a n c] 25)
  have GP := Lib.hid HP
  obtain ⟨rfl, rfl, rfl, rfl⟩ := i1
  have HM : Hid ((castS d1.spans).length = n ∧ n ≤ 1000000) := ⟨k.row.1, by omega⟩
  have hm := HM.out.1
  have hz : (P.size : Int) = 64 := by rw [hP, hdB_size d1 o1]; rfl
  have GT : Hid (∀ W, Calls Try.prog 16 #[.string P] W (HeadAt d1 W)) := by rw [hP]; exact Take_yes d1 o1
  have HS := Lib.hid (fun W (hW : Below w.heap.size w W) => SpansAt.below k.row.2.1 hW)
  have GA := Lib.hid (as_any (d1.gen : Int) d1.sectors d1.size a n c)
  clear hP o1
  have GY : Hid (∀ W, Calls Try.prog 16 #[.string t] W (HeadAt d2 W)) := by rw [hT]; exact Take_yes d2 o2
  have GQ : Hid (∀ W b d, SpansAt W b (castS d2.spans) → Calls Try.prog 10 #[.agg #[.int .u64 (d2.gen : Int), .int .i64 (d2.sectors : Int), .int .i64 (d2.size : Int), .slice b (castS d2.spans).length d]] W fun e w' => e = .returned (.tuple #[.string t, .int .i64 0]) ∧ Below W.heap.size W w') := fun W b d hS => by
    rw [hT]
    exact Put_yes d2 o2 b d _ W hS (castS_length _).symm
  have tt : (t.toList == t.toList) = true := by simp
  clear hT o2
  clear HP hn ht k
  go_enter Try.func5, Try.ntmps5
  go_wp2_with fail
  refine (shown_any _).mono ?_
  rintro e w1 ⟨rfl, hb1⟩
  replace HC := Lib.hid (HC.out.below hb1)
  have p0 := (HC.out.at 0 rfl (j := 0) rfl).1
  have p1 := (HC.out.at 0 rfl (j := 1) rfl).1
  have p2 := (HC.out.at 0 rfl (j := 2) rfl).1
  have p3 := (HC.out.at 0 rfl (j := 3) rfl).1
  clear hb1
  go_wp2_with fail
  refine (GP.out _ HC.out.bel).mono ?_
  rintro e w2 ⟨rfl, hb2⟩
  replace HC := Lib.hid (HC.out.below hb2)
  clear p0 p1 p2 p3 hb2
  go_wp2_with fail
  refine (GT.out _).mono ?_
  rintro e w3 ⟨v3, rfl, hf3⟩
  obtain ⟨a3, d3, hv3, hs3, hb3⟩ := row_of2 hf3
  rw [hm] at hv3
  subst hv3
  replace HC := Lib.hid ((HC.out.below hb3).block #[.int .u64 (d1.gen : Int), .int .i64 (d1.sectors : Int), .int .i64 (d1.size : Int), .slice a3 n d3] 25)
  have HS3 := Lib.hid (SpansAt.below hs3 ((Below.refl _ w3).alloc (Nat.le_refl _) (.cells #[.int .u64 (d1.gen : Int), .int .i64 (d1.sectors : Int), .int .i64 (d1.size : Int), .slice a3 n d3] 25)))
  clear hf3 hs3 hb3 hm
  have p0 := fun p => after_cell (HC.out.at 0 rfl (j := 0) rfl).1 (HC.out.lt 0 rfl) p
  have p1 := fun p => after_cell (HC.out.at 0 rfl (j := 1) rfl).1 (HC.out.lt 0 rfl) p
  have p2 := fun p => after_cell (HC.out.at 0 rfl (j := 2) rfl).1 (HC.out.lt 0 rfl) p
  have p3 := fun p => after_cell (HC.out.at 0 rfl (j := 3) rfl).1 (HC.out.lt 0 rfl) p
  have q0 := fun p => after_cell (HC.out.at 1 rfl (j := 0) rfl).1 (HC.out.lt 1 rfl) p
  have q1 := fun p => after_cell (HC.out.at 1 rfl (j := 1) rfl).1 (HC.out.lt 1 rfl) p
  have q2 := fun p => after_cell (HC.out.at 1 rfl (j := 2) rfl).1 (HC.out.lt 1 rfl) p
  have q3 := fun p => after_cell (HC.out.at 1 rfl (j := 3) rfl).1 (HC.out.lt 1 rfl) p
  have FA := Lib.hid (fun p => after_of (W := w3.alloc (.cells #[.int .u64 (d1.gen : Int), .int .i64 (d1.sectors : Int), .int .i64 (d1.size : Int), .slice a3 n d3] 25)) (fun W _ => GA.out W) p)
  have FS := Lib.hid (fun p => after_of (W := w3.alloc (.cells #[.int .u64 (d1.gen : Int), .int .i64 (d1.sectors : Int), .int .i64 (d1.size : Int), .slice a3 n d3] 25)) (fun W hW => by
    have C := sameH_any (d1.gen : Int) d1.gen d1.sectors d1.sectors d1.size d1.size (castS d1.spans) (castS d1.spans) a3 a n n d3 c W (SpansAt.below HS3.out hW) (HS.out W (below_trans HC.out.bel hW)) HM.out.1 HM.out.1 HM.out.2
    rw [decide_eq_true ⟨rfl, rfl, rfl, rfl⟩] at C
    exact C) p)
  go_wp2_with fail
  refine wp_region_after (by kernel_rfl) (by kernel_rfl) ?_
  repeat (go_big_quiet_step (first | with_reducible exact FA.out _ | with_reducible exact FS.out _))
  refine wpQuiet_nil ?_
  intro _ hw
  obtain ⟨p, rfl⟩ := hw
  have HB := Lib.hid (below_trans HC.out.bel p.is)
  generalize p.to = wp at *
  clear p0 p1 p2 p3 q0 q1 q2 q3 FA FS HS3 HS GA GT GP
  go_wp2_with fail
  refine (GY.out _).mono ?_
  rintro e w5 ⟨v5, rfl, hf5⟩
  obtain ⟨a5, d5, rfl, hs5, hb5⟩ := row_of2 hf5
  have HQ := Lib.hid (GQ.out (w5.alloc (.cells #[.int .u64 (d2.gen : Int), .int .i64 (d2.sectors : Int), .int .i64 (d2.size : Int), .slice a5 (castS d2.spans).length d5] 25)) a5 d5 (SpansAt.below hs5 ((Below.refl _ w5).alloc (Nat.le_refl _) _)))
  replace HB := Lib.hid (ba (below_trans HB.out hb5) (.cells #[.int .u64 (d2.gen : Int), .int .i64 (d2.sectors : Int), .int .i64 (d2.size : Int), .slice a5 (castS d2.spans).length d5] 25))
  clear hf5 hs5 hb5 GQ GY
  generalize (castS d2.spans).length = m5 at *
  go_wp2_with fail
  refine HQ.out.mono ?_
  rintro e w6 ⟨rfl, hb6⟩
  replace HB := Lib.hid (below_trans HB.out hb6)
  clear hb6
  go_wp2_with fail
  go_ret
  exact ⟨rfl, HB.out⟩

set_option maxRecDepth 100000 in
set_option maxHeartbeats 16000000 in
theorem putNone (g : Nat) (s z : Int) (a : Option Addr) (n c : Nat) (L : List SpI) (t : ByteArray) (w : World) (hn : n ≤ 20) (ht : t.size ≤ 300) (k : IsHead w g s z a n L) (P : ByteArray)
    (HP : ∀ W, Below w.heap.size w W → Calls Try.prog 10 #[.agg #[.int .u64 (g : Int), .int .i64 s, .int .i64 z, .slice a n c]] W fun e w' => e = .returned (.tuple #[.string P, .int .i64 0]) ∧ Below W.heap.size W w')
    (d1 : Hd) (o1 : d1.Ok) (i1 : Is g s z L d1) (hP : P = hdB d1)
    (hno : ¬ ∃ h : Hd, h.Ok ∧ hdB h = t) :
    Calls Try.prog 5 #[.agg #[.int .u64 (g : Int), .int .i64 s, .int .i64 z, .slice a n c], .string t] w fun e w' => e = .returned (.bool true) ∧ Below w.heap.size w w' := by
  have hl1 : ¬ (20 : Int) < n := by omega
  have hl2 : ¬ (300 : Int) < t.size := by omega
  have HC := Lib.hid ((Crew.start w).block #[.int .u64 (g : Int), .int .i64 s, .int .i64 z, .slice a n c] 25)
  have GP := Lib.hid HP
  obtain ⟨rfl, rfl, rfl, rfl⟩ := i1
  have HM : Hid ((castS d1.spans).length = n ∧ n ≤ 1000000) := ⟨k.row.1, by omega⟩
  have hm := HM.out.1
  have hz : (P.size : Int) = 64 := by rw [hP, hdB_size d1 o1]; rfl
  have GT : Hid (∀ W, Calls Try.prog 16 #[.string P] W (HeadAt d1 W)) := by rw [hP]; exact Take_yes d1 o1
  have HS := Lib.hid (fun W (hW : Below w.heap.size w W) => SpansAt.below k.row.2.1 hW)
  have GA := Lib.hid (as_any (d1.gen : Int) d1.sectors d1.size a n c)
  clear hP o1
  have GY := Lib.hid (Take_no t hno)
  have hE := takeErr_ne t
  generalize takeErr t = er at *
  have hE2 : (er != 0) = true := by simpa using hE
  clear hno
  clear HP hn ht k
  go_enter Try.func5, Try.ntmps5
  go_wp2_with fail
  refine (shown_any _).mono ?_
  rintro e w1 ⟨rfl, hb1⟩
  replace HC := Lib.hid (HC.out.below hb1)
  have p0 := (HC.out.at 0 rfl (j := 0) rfl).1
  have p1 := (HC.out.at 0 rfl (j := 1) rfl).1
  have p2 := (HC.out.at 0 rfl (j := 2) rfl).1
  have p3 := (HC.out.at 0 rfl (j := 3) rfl).1
  clear hb1
  go_wp2_with fail
  refine (GP.out _ HC.out.bel).mono ?_
  rintro e w2 ⟨rfl, hb2⟩
  replace HC := Lib.hid (HC.out.below hb2)
  clear p0 p1 p2 p3 hb2
  go_wp2_with fail
  refine (GT.out _).mono ?_
  rintro e w3 ⟨v3, rfl, hf3⟩
  obtain ⟨a3, d3, hv3, hs3, hb3⟩ := row_of2 hf3
  rw [hm] at hv3
  subst hv3
  replace HC := Lib.hid ((HC.out.below hb3).block #[.int .u64 (d1.gen : Int), .int .i64 (d1.sectors : Int), .int .i64 (d1.size : Int), .slice a3 n d3] 25)
  have HS3 := Lib.hid (SpansAt.below hs3 ((Below.refl _ w3).alloc (Nat.le_refl _) (.cells #[.int .u64 (d1.gen : Int), .int .i64 (d1.sectors : Int), .int .i64 (d1.size : Int), .slice a3 n d3] 25)))
  clear hf3 hs3 hb3 hm
  have p0 := fun p => after_cell (HC.out.at 0 rfl (j := 0) rfl).1 (HC.out.lt 0 rfl) p
  have p1 := fun p => after_cell (HC.out.at 0 rfl (j := 1) rfl).1 (HC.out.lt 0 rfl) p
  have p2 := fun p => after_cell (HC.out.at 0 rfl (j := 2) rfl).1 (HC.out.lt 0 rfl) p
  have p3 := fun p => after_cell (HC.out.at 0 rfl (j := 3) rfl).1 (HC.out.lt 0 rfl) p
  have q0 := fun p => after_cell (HC.out.at 1 rfl (j := 0) rfl).1 (HC.out.lt 1 rfl) p
  have q1 := fun p => after_cell (HC.out.at 1 rfl (j := 1) rfl).1 (HC.out.lt 1 rfl) p
  have q2 := fun p => after_cell (HC.out.at 1 rfl (j := 2) rfl).1 (HC.out.lt 1 rfl) p
  have q3 := fun p => after_cell (HC.out.at 1 rfl (j := 3) rfl).1 (HC.out.lt 1 rfl) p
  have FA := Lib.hid (fun p => after_of (W := w3.alloc (.cells #[.int .u64 (d1.gen : Int), .int .i64 (d1.sectors : Int), .int .i64 (d1.size : Int), .slice a3 n d3] 25)) (fun W _ => GA.out W) p)
  have FS := Lib.hid (fun p => after_of (W := w3.alloc (.cells #[.int .u64 (d1.gen : Int), .int .i64 (d1.sectors : Int), .int .i64 (d1.size : Int), .slice a3 n d3] 25)) (fun W hW => by
    have C := sameH_any (d1.gen : Int) d1.gen d1.sectors d1.sectors d1.size d1.size (castS d1.spans) (castS d1.spans) a3 a n n d3 c W (SpansAt.below HS3.out hW) (HS.out W (below_trans HC.out.bel hW)) HM.out.1 HM.out.1 HM.out.2
    rw [decide_eq_true ⟨rfl, rfl, rfl, rfl⟩] at C
    exact C) p)
  go_wp2_with fail
  refine wp_region_after (by kernel_rfl) (by kernel_rfl) ?_
  repeat (go_big_quiet_step (first | with_reducible exact FA.out _ | with_reducible exact FS.out _))
  refine wpQuiet_nil ?_
  intro _ hw
  obtain ⟨p, rfl⟩ := hw
  have HB := Lib.hid (below_trans HC.out.bel p.is)
  generalize p.to = wp at *
  clear p0 p1 p2 p3 q0 q1 q2 q3 FA FS HS3 HS GA GT GP
  go_wp2_with fail
  refine (GY.out _).mono ?_
  rintro e w5 ⟨rfl, hb5⟩
  replace HB := Lib.hid (ba (below_trans HB.out hb5) (.cells #[.int .u64 0, .int .i64 0, .int .i64 0, .slice none 0 0] 25))
  clear hb5
  go_wp2_with fail
  go_ret
  exact ⟨rfl, HB.out⟩

set_option maxRecDepth 100000 in
set_option maxHeartbeats 16000000 in
theorem notHead (g : Nat) (s z : Int) (a : Option Addr) (n c : Nat) (t : ByteArray) (w : World) (hn : n ≤ 20) (ht : t.size ≤ 300) (P : ByteArray)
    (HP : ∀ W, Below w.heap.size w W → Calls Try.prog 10 #[.agg #[.int .u64 (g : Int), .int .i64 s, .int .i64 z, .slice a n c]] W fun e w' => e = .returned (.tuple #[.string P, .int .i64 1]) ∧ Below W.heap.size W w')
    (d2 : Hd) (o2 : d2.Ok) (hT : t = hdB d2) :
    Calls Try.prog 5 #[.agg #[.int .u64 (g : Int), .int .i64 s, .int .i64 z, .slice a n c], .string t] w fun e w' => e = .returned (.bool true) ∧ Below w.heap.size w w' := by
  have hl1 : ¬ (20 : Int) < n := by omega
  have hl2 : ¬ (300 : Int) < t.size := by omega
  have HC := Lib.hid ((Crew.start w).block #[.int .u64 (g : Int), .int .i64 s, .int .i64 z, .slice a n c] 25)
  have GP := Lib.hid HP
  have GY : Hid (∀ W, Calls Try.prog 16 #[.string t] W (HeadAt d2 W)) := by rw [hT]; exact Take_yes d2 o2
  have GQ : Hid (∀ W b d, SpansAt W b (castS d2.spans) → Calls Try.prog 10 #[.agg #[.int .u64 (d2.gen : Int), .int .i64 (d2.sectors : Int), .int .i64 (d2.size : Int), .slice b (castS d2.spans).length d]] W fun e w' => e = .returned (.tuple #[.string t, .int .i64 0]) ∧ Below W.heap.size W w') := fun W b d hS => by
    rw [hT]
    exact Put_yes d2 o2 b d _ W hS (castS_length _).symm
  have tt : (t.toList == t.toList) = true := by simp
  clear hT o2
  clear HP hn ht
  go_enter Try.func5, Try.ntmps5
  go_wp2_with fail
  refine (shown_any _).mono ?_
  rintro e w1 ⟨rfl, hb1⟩
  replace HC := Lib.hid (HC.out.below hb1)
  have p0 := (HC.out.at 0 rfl (j := 0) rfl).1
  have p1 := (HC.out.at 0 rfl (j := 1) rfl).1
  have p2 := (HC.out.at 0 rfl (j := 2) rfl).1
  have p3 := (HC.out.at 0 rfl (j := 3) rfl).1
  clear hb1
  go_wp2_with fail
  refine (GP.out _ HC.out.bel).mono ?_
  rintro e w2 ⟨rfl, hb2⟩
  replace HC := Lib.hid (HC.out.below hb2)
  clear p0 p1 p2 p3 hb2
  go_wp2_with fail
  have HB := Lib.hid HC.out.bel
  refine (GY.out _).mono ?_
  rintro e w5 ⟨v5, rfl, hf5⟩
  obtain ⟨a5, d5, rfl, hs5, hb5⟩ := row_of2 hf5
  have HQ := Lib.hid (GQ.out (w5.alloc (.cells #[.int .u64 (d2.gen : Int), .int .i64 (d2.sectors : Int), .int .i64 (d2.size : Int), .slice a5 (castS d2.spans).length d5] 25)) a5 d5 (SpansAt.below hs5 ((Below.refl _ w5).alloc (Nat.le_refl _) _)))
  replace HB := Lib.hid (ba (below_trans HB.out hb5) (.cells #[.int .u64 (d2.gen : Int), .int .i64 (d2.sectors : Int), .int .i64 (d2.size : Int), .slice a5 (castS d2.spans).length d5] 25))
  clear hf5 hs5 hb5 GQ GY
  generalize (castS d2.spans).length = m5 at *
  go_wp2_with fail
  refine HQ.out.mono ?_
  rintro e w6 ⟨rfl, hb6⟩
  replace HB := Lib.hid (below_trans HB.out hb6)
  clear hb6
  go_wp2_with fail
  go_ret
  exact ⟨rfl, HB.out⟩

set_option maxRecDepth 100000 in
set_option maxHeartbeats 16000000 in
theorem notNone (g : Nat) (s z : Int) (a : Option Addr) (n c : Nat) (t : ByteArray) (w : World) (hn : n ≤ 20) (ht : t.size ≤ 300) (P : ByteArray)
    (HP : ∀ W, Below w.heap.size w W → Calls Try.prog 10 #[.agg #[.int .u64 (g : Int), .int .i64 s, .int .i64 z, .slice a n c]] W fun e w' => e = .returned (.tuple #[.string P, .int .i64 1]) ∧ Below W.heap.size W w')
    (hno : ¬ ∃ h : Hd, h.Ok ∧ hdB h = t) :
    Calls Try.prog 5 #[.agg #[.int .u64 (g : Int), .int .i64 s, .int .i64 z, .slice a n c], .string t] w fun e w' => e = .returned (.bool true) ∧ Below w.heap.size w w' := by
  have hl1 : ¬ (20 : Int) < n := by omega
  have hl2 : ¬ (300 : Int) < t.size := by omega
  have HC := Lib.hid ((Crew.start w).block #[.int .u64 (g : Int), .int .i64 s, .int .i64 z, .slice a n c] 25)
  have GP := Lib.hid HP
  have GY := Lib.hid (Take_no t hno)
  have hE := takeErr_ne t
  generalize takeErr t = er at *
  have hE2 : (er != 0) = true := by simpa using hE
  clear hno
  clear HP hn ht
  go_enter Try.func5, Try.ntmps5
  go_wp2_with fail
  refine (shown_any _).mono ?_
  rintro e w1 ⟨rfl, hb1⟩
  replace HC := Lib.hid (HC.out.below hb1)
  have p0 := (HC.out.at 0 rfl (j := 0) rfl).1
  have p1 := (HC.out.at 0 rfl (j := 1) rfl).1
  have p2 := (HC.out.at 0 rfl (j := 2) rfl).1
  have p3 := (HC.out.at 0 rfl (j := 3) rfl).1
  clear hb1
  go_wp2_with fail
  refine (GP.out _ HC.out.bel).mono ?_
  rintro e w2 ⟨rfl, hb2⟩
  replace HC := Lib.hid (HC.out.below hb2)
  clear p0 p1 p2 p3 hb2
  go_wp2_with fail
  have HB := Lib.hid HC.out.bel
  refine (GY.out _).mono ?_
  rintro e w5 ⟨rfl, hb5⟩
  replace HB := Lib.hid (ba (below_trans HB.out hb5) (.cells #[.int .u64 0, .int .i64 0, .int .i64 0, .slice none 0 0] 25))
  clear hb5
  go_wp2_with fail
  go_ret
  exact ⟨rfl, HB.out⟩

theorem walk (g : Nat) (s z : Int) (a : Option Addr) (n c : Nat) (L : List SpI) (t : ByteArray) (_ : t.size ≤ maxLen) (w : World) (k : IsHead w g s z a n L) :
    Calls Try.prog 5 #[.agg #[.int .u64 (g : Int), .int .i64 s, .int .i64 z, .slice a n c], .string t] w fun e w' => e = .returned (.bool true) ∧ Below w.heap.size w w' := by
  by_cases h1 : n ≤ 20
  · by_cases h2 : t.size ≤ 300
    · obtain ⟨P, x, r, HP, _, _, _, hP⟩ := k.puts c
      rcases hP with ⟨rfl, rfl, d1, o1, i1, hP⟩ | ⟨rfl, rfl, _, _⟩
      · by_cases hx : ∃ h : Hd, h.Ok ∧ hdB h = t
        · obtain ⟨d2, o2, hT⟩ := hx
          exact putHead g s z a n c L t w h1 h2 k P HP d1 o1 i1 hP d2 o2 hT.symm
        · exact putNone g s z a n c L t w h1 h2 k P HP d1 o1 i1 hP hx
      · by_cases hx : ∃ h : Hd, h.Ok ∧ hdB h = t
        · obtain ⟨d2, o2, hT⟩ := hx
          exact notHead g s z a n c t w h1 h2 P HP d2 o2 hT.symm
        · exact notNone g s z a n c t w h1 h2 P HP hx
    · exact long g s z a n c t w (.inr ⟨h1, by omega⟩)
  · exact long g s z a n c t w (.inl (by omega))

set_option maxRecDepth 100000 in
theorem lifted (os : Os) (started : os.Started) (H : Type) (enc : TypeId × Value → H) :
    ReturnsInHanded {} Try.checked os 5 .any (Rows.headBackSpec.pre6 enc Try.prog Try.f5 Rows.headBackRow.domain false) (Rows.headBackSpec.post enc Try.prog Try.f5 false true false false) := by
  refine returnsInHanded_of_change (C := Try.checked) own started (by kernel_rfl) Try.func5
    (ChangeSpec.witness6 (enc := enc) (C := Try.checked) false ⟨#[], #[.agg #[.int .u64 0, .int .i64 0, .int .i64 0, .slice none 0 0], .string ByteArray.empty], []⟩ 8 (by kernel_rfl) (by kernel_rfl) (by kernel_rfl) (by kernel_rfl)) ?_
  intro W base args ds gs before hval0 hW _ _
  have hval : ∀ (j : Nat) t v, Try.f5.params[j]? = some t → args[j]? = some v → Value.okWide Try.prog W .any base t v := hval0
  have hW' := hW
  obtain ⟨p, q, hA0, hV, rfl, hfz, hnd⟩ := hW
  have hA : DataW.TrodAll enc Try.prog W 0 (fun _ => true) true Try.f5.params.toList args.toList ds p := hA0
  rw [Try.params5] at hA hval
  obtain ⟨v0, vs0, d0, ds0, p0, q0, hargs, rfl, rfl, h0, r0⟩ := trodAll_cons hA
  obtain ⟨v1, vs1, d1, ds1, p1, q1, rfl, rfl, rfl, h1, r1⟩ := trodAll_cons r0
  obtain ⟨rfl, rfl, rfl⟩ := trodAll_nil r1
  obtain rfl : args = #[v0, v1] := by cases args; simp_all
  obtain ⟨rfl, rfl⟩ := trodVars_none hV
  have k0 := h0
  have lt0 : ∀ x ∈ p0, x.block < W.heap.size := by obtain ⟨m, hm⟩ := k0; exact DataW.trod_lt m _ _ _ hm
  obtain ⟨g0, s0, z0, a0, len0, cap0, l0, rfl, w0⟩ := open_head (hval 0 25 v0 rfl rfl) h0
  obtain ⟨a1, rfl, rfl, rfl, w1⟩ := open_string Try.underlying9 (hval 1 9 v1 rfl rfl) h1
  clear hA0 hval0
  refine (walk g0 s0 z0 a0 len0 cap0 l0 a1 w1 W w0).mono fun e W' ⟨he, bel⟩ => ?_
  subst he
  exact ⟨_, rfl, _, _, _, [], _, [], hW', trodAll_mk1 (shut_bool Try.underlying4 _), (trodAll_cons_mk (Below.trod laidOut (by kernel_rfl) (of_decide_eq_true (by kernel_rfl)) k0 bel lt0) (trodAll_cons_mk (shut_string Try.underlying9 w1) trodAll_mk0)), rfl, bel.frame _, fun h => by cases h⟩

theorem holds : Rows.HeadBackSaid :=
  OpenClaim.holds_of_wide 5 Try.f5 rfl rfl rfl rfl rfl rfl rfl ⟨rfl, rfl, rfl, rfl, rfl⟩ rfl rfl rfl rfl rfl (by kernel_rfl) Try.func5 (by kernel_rfl)
    (of_decide_eq_true (by kernel_rfl)) (by unfold Func.isWrapper; first | (rw [if_pos (by decide +kernel)]; kernel_rfl) | (rw [if_neg (by decide +kernel)]; exact ⟨rfl, rfl⟩))
    (fun os started H enc _ => lifted os started H enc)

end Go.Proofs.Ytnknojkihjpjkaa.headBack
