/-
  What the program's Take answers. Conditions: as each theorem states them.
-/
import Derived.Test.YtnknojkihjpjkaaHdTake
namespace Go.Proofs.Ytnknojkihjpjkaa
open Go.RowKit Go.Rc5 Go.Rc6

theorem zero_head {W : World} {b : Nat} (h : W.heap[b]? = some (.cells #[.int .u64 0, .int .i64 0, .int .i64 0, .slice none 0 0] 25 (0, 0))) (fn : Func) (p q : Tmp) (hr : fn.results = #[.cell p 25, .cell q 27]) (tmps : Array Value) (eb : Nat) (x : Int)
    (hp : tmps.getD p undef = .pointer (some ⟨b, 0, none⟩)) (hq : tmps.getD q undef = .pointer (some ⟨eb, 0, none⟩)) (hx : W.cell? ⟨eb, 0, none⟩ = some (.int .i64 x)) :
    (results fn tmps).run Try.prog W = .ok (.tuple #[.agg #[.int .u64 0, .int .i64 0, .int .i64 0, .slice none 0 0], .int .i64 x]) W :=
  results_row_cell hr tmps W b 25 _ (0, 0) _ hp h Try.underlying25 rfl (by kernel_rfl) ⟨eb, 0, none⟩ _ hq Try.isAgg27 hx

set_option maxHeartbeats 4000000 in
theorem Take_len (s : ByteArray) (h : s.size ≠ 64) (w : World) :
    Calls Try.prog 16 #[.string s] w fun e w' => e = .returned (.tuple #[.agg #[.int .u64 0, .int .i64 0, .int .i64 0, .slice none 0 0], .int .i64 1]) ∧ Below w.heap.size w w' := by
  have hi : ¬ (s.size : Int) = 64 := by omega
  have hi2 : ((s.size : Int) != 64) = true := by simpa using hi
  have C := (((Crew.start w).block #[.string s] 9).block #[.int .u64 0, .int .i64 0, .int .i64 0, .slice none 0 0] 25).block #[.int .i64 1] 27
  simp only [World.size_alloc] at C
  obtain ⟨O, ⟨hblk, _⟩, _⟩ := C.one (i := 1) rfl
  have HX := Lib.hid (C.at 2 rfl (j := 0) rfl).1
  have HBLK := Lib.hid hblk
  have HB := Lib.hid C.bel
  clear C hblk h
  go_enter_defers Try.func16, Try.ntmps16
  go_wp2_with fail
  exact ⟨_, zero_head HBLK.out _ 2 3 rfl _ (w.heap.size + 1 + 1) 1 rfl rfl HX.out, rfl, HB.out⟩

set_option maxHeartbeats 4000000 in
theorem Take_sum (s : ByteArray) (h : s.size = 64) (hne : sealedB (ahead s) ≠ s) (w : World) :
    Calls Try.prog 16 #[.string s] w fun e w' => e = .returned (.tuple #[.agg #[.int .u64 0, .int .i64 0, .int .i64 0, .slice none 0 0], .int .i64 9]) ∧ Below w.heap.size w w' := by
  have hi : (s.size : Int) = 64 := by omega
  have HT := Lib.hid (fun W => Take_bad s (by omega) (by rw [h]; decide) (fun e => hne ((sealed_test s (by omega)).1 e)) W)
  have C := (((Crew.start w).block #[.string s] 9).block #[.int .u64 0, .int .i64 0, .int .i64 0, .slice none 0 0] 25).block #[.int .i64 0] 27
  simp only [World.size_alloc] at C
  have HC := Lib.hid C
  clear C h hne
  go_enter_defers Try.func16, Try.ntmps16
  go_wp2_with fail
  refine (HT.out _).mono ?_
  rintro e w1 ⟨rfl, hb1⟩
  have C := HC.out.below hb1
  have HC1 := Lib.hid C
  have d0 := (C.at 1 rfl (j := 0) rfl).1
  have d1 := (C.at 1 rfl (j := 1) rfl).1
  have d2 := (C.at 1 rfl (j := 2) rfl).1
  have d3 := (C.at 1 rfl (j := 3) rfl).1
  have e0 := (C.at 1 rfl (j := 0) rfl).2
  have e1 := (C.at 1 rfl (j := 1) rfl).2
  have e2 := (C.at 1 rfl (j := 2) rfl).2
  have e3 := (C.at 1 rfl (j := 3) rfl).2
  have x0 := (C.at 2 rfl (j := 0) rfl).1
  have x1 := (C.at 2 rfl (j := 0) rfl).2
  have CF := (((C.set 2 rfl 0 (.int .i64 9)).set4 1 rfl (.int .u64 0) (.int .i64 0) (.int .i64 0) (.slice none 0 0)).set 2 rfl 0 (.int .i64 9)).below (Below.refl _ _).drew
  obtain ⟨O, ⟨hblk, _⟩, _⟩ := CF.one (i := 1) rfl
  have HX := Lib.hid (CF.at 2 rfl (j := 0) rfl).1
  have HBLK := Lib.hid hblk
  have HB := Lib.hid CF.bel
  clear C hb1 HC CF hblk
  go_wp2_with fail
  go_region
  go_wp2_with fail
  exact ⟨_, zero_head HBLK.out _ 2 3 rfl _ (w.heap.size + 1 + 1) 9 rfl rfl HX.out, rfl, HB.out⟩

theorem row_of2 {v : Value} {L : List SpI} {w w' : World} (h : Fresh (spT v L) w w') : ∃ a c, v = .slice a L.length c ∧ SpansAt w' a L ∧ Below w.heap.size w w' := by
  have hb := h.bel
  obtain ⟨O, ⟨ho, _⟩, _⟩ := h
  obtain ⟨a, c, rfl⟩ := own_slice ho
  exact ⟨a, c, rfl, (spans_own ho).2, hb⟩

/-- The door: what was read lies in the result, and the deferred function is still to be called. -/
structure Door (t S : ByteArray) (w W : World) : Prop where
  is : ∃ (a : Option Addr) (c : Nat) (M : List SpI), M.length = many t.data.toList ∧ (∀ x ∈ M, In64 x.1) ∧ (many t.data.toList ≤ 8 → M = castS (readSpans t.data.toList (many t.data.toList))) ∧
    Crew (fun _ => False) w [blkT w.heap.size #[.string S] 9, blkT (w.heap.size + 1) #[.int .u64 (Rc2.say (cut t.data.toList 4 8) : Nat), .int .i64 (Rc2.say (cut t.data.toList 12 2) : Nat), .int .i64 (Rc2.say (cut t.data.toList 14 4) : Nat), .slice a M.length c] 25, blkT (w.heap.size + 1 + 1) #[.int .i64 0] 27, spT (.slice a M.length c) M] W

set_option maxHeartbeats 4000000 in
theorem take_door (t : ByteArray) (ht : t.size = 60) (w : World) (R : Ending → World → Prop)
    (hK : ∀ W, Door t (sealedB t) w W → ∀ tmps, tmps.getD 2 undef = .pointer (some ⟨w.heap.size + 1, 0, none⟩) → tmps.getD 3 undef = .pointer (some ⟨w.heap.size + 1 + 1, 0, none⟩) →
      CallsD Try.prog 38 #[.pointer (some ⟨w.heap.size + 1, 0, none⟩), .pointer (some ⟨w.heap.size, 0, none⟩), .pointer (some ⟨w.heap.size + 1 + 1, 0, none⟩)] .returning W fun
        | .returned _, u', w' => Leaves Try.prog Try.f16 tmps R [] (settle u') w'
        | .panicked chain, u', w' => Leaves Try.prog Try.f16 tmps R [] (raised u' chain) w'
        | .outgrown, _, w' => R .outgrown w') :
    Calls Try.prog 16 #[.string (sealedB t)] w R := by
  have hi : ((sealedB t).size : Int) = 64 := by rw [sealed_size]; omega
  have HT := Lib.hid (Take_sealed t (by rw [ht]; decide))
  have HR := Lib.hid (read_any t ht)
  have HK := Lib.hid hK
  have hmf : ∀ (fn : Fn) (first cap : Array Value) (w : World), (Instr.makeFunc fn first cap).run Try.prog w = .ok (.func fn first cap) w := fun _ _ _ _ => rfl
  have C := (((Crew.start w).block #[.string (sealedB t)] 9).block #[.int .u64 0, .int .i64 0, .int .i64 0, .slice none 0 0] 25).block #[.int .i64 0] 27
  simp only [World.size_alloc] at C
  have HC := Lib.hid C
  clear C ht hK
  generalize sealedB t = S at *
  go_enter_defers Try.func16, Try.ntmps16
  go_wp2_with fail
  refine (HT.out _).mono ?_
  rintro e w1 ⟨rfl, hb1⟩
  have C := HC.out.below hb1
  have x0 := (C.at 2 rfl (j := 0) rfl).1
  have x1 := (C.at 2 rfl (j := 0) rfl).2
  have HC1 := Lib.hid (C.set 2 rfl 0 (.int .i64 0))
  clear C hb1 HC HT
  go_wp2_with fail
  refine (HR.out _).mono ?_
  rintro e w2 ⟨v, M, rfl, hF, hM1, hM2, hM3⟩
  obtain ⟨a, c, rfl⟩ : ∃ a c, v = .slice a M.length c := by
    obtain ⟨a, c, e, _⟩ := row_of2 hF
    exact ⟨a, c, e⟩
  have C := HC1.out.more hF
  simp only [List.set_cons_succ, List.set_cons_zero, List.cons_append, List.nil_append] at C
  have d0 := (C.at 1 rfl (j := 0) rfl).1
  have d1 := (C.at 1 rfl (j := 1) rfl).1
  have d2 := (C.at 1 rfl (j := 2) rfl).1
  have d3 := (C.at 1 rfl (j := 3) rfl).1
  have e0 := (C.at 1 rfl (j := 0) rfl).2
  have e1 := (C.at 1 rfl (j := 1) rfl).2
  have e2 := (C.at 1 rfl (j := 2) rfl).2
  have e3 := (C.at 1 rfl (j := 3) rfl).2
  have x2 := (C.at 2 rfl (j := 0) rfl).1
  have x3 := (C.at 2 rfl (j := 0) rfl).2
  have HD : Hid (∀ W, W = _ → Door t S w W) := fun W hW => ⟨a, c, M, hM1, hM2, hM3, hW ▸ (C.set4 1 rfl (.int .u64 (Rc2.say (cut t.data.toList 4 8) : Nat)) (.int .i64 (Rc2.say (cut t.data.toList 12 2) : Nat)) (.int .i64 (Rc2.say (cut t.data.toList 14 4) : Nat)) (.slice a M.length c)).set 2 rfl 0 (.int .i64 0)⟩
  clear C HC1 x0 x1 hF hM1 hM2 hM3
  generalize ((Rc2.say (cut t.data.toList 4 8) : Nat) : Int) = g at *
  generalize ((Rc2.say (cut t.data.toList 12 2) : Nat) : Int) = sec at *
  generalize ((Rc2.say (cut t.data.toList 14 4) : Nat) : Int) = z at *
  generalize M.length = m at *
  go_wp2_with fail
  refine leaves_cons (f := 38) (args := #[.pointer (some ⟨w.heap.size + 1, 0, none⟩), .pointer (some ⟨w.heap.size, 0, none⟩), .pointer (some ⟨w.heap.size + 1 + 1, 0, none⟩)]) (by simp) (by simp [go_sem]) ?_
  exact HK.out _ (HD.out _ rfl) _ rfl rfl

end Go.Proofs.Ytnknojkihjpjkaa
