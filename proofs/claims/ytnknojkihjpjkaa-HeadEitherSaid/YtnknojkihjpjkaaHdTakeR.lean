/-
  What the document's Take answers: the ways to the head that it reads. Conditions: as each theorem states them.
-/
import Derived.Test.YtnknojkihjpjkaaHdTakeC
import Derived.Test.YtnknojkihjpjkaaHdPutR
namespace Go.Rc6
open Go.Rc5

theorem many_at (t : List UInt8) (h : 18 < t.length) : many t = (t[18]).toNat := by
  unfold many cut
  rw [List.drop_eq_getElem_cons h, List.take_succ_cons, List.take_zero]
  simp [Rc2.say]

end Go.Rc6
namespace Go.Proofs.Ytnknojkihjpjkaa
open Go.RowKit Go.Rc5 Go.Rc6

theorem zero_headR {W : World} {b : Nat} (h : W.heap[b]? = some (.cells #[.int .u64 0, .int .i64 0, .int .i64 0, .slice none 0 0] 31 (0, 0))) (fn : Func) (p q : Tmp) (hr : fn.results = #[.cell p 31, .tmp q]) (tmps : Array Value)
    (hp : tmps.getD p undef = .pointer (some ⟨b, 0, none⟩)) :
    (results fn tmps).run Try.prog W = .ok (.tuple #[.agg #[.int .u64 0, .int .i64 0, .int .i64 0, .slice none 0 0], tmps.getD q undef]) W := by
  have hp' : tmps[p]?.getD undef = .pointer (some ⟨b, 0, none⟩) := by simpa using hp
  have h1 := run_loadVar_row (P := Try.prog) W b 31 31 _ (0, 0) _ h Try.underlying31 rfl (by kernel_rfl)
  simp [results, hr, hp', asAddr, h1, Result.andThen]

theorem row_headR {W : World} {b : Nat} {cs : Array Value} (hcs : cs.size = 4) (h : W.heap[b]? = some (.cells cs 31 (0, 0))) (fn : Func) (p q : Tmp) (hr : fn.results = #[.cell p 31, .tmp q]) (tmps : Array Value)
    (hp : tmps.getD p undef = .pointer (some ⟨b, 0, none⟩)) :
    (results fn tmps).run Try.prog W = .ok (.tuple #[.agg cs, tmps.getD q undef]) W := by
  have hp' : tmps[p]?.getD undef = .pointer (some ⟨b, 0, none⟩) := by simpa using hp
  have h1 := run_loadVar_row (P := Try.prog) W b 31 31 _ (0, 0) _ h Try.underlying31 rfl (by rw [hcs]; kernel_rfl)
  simp [results, hr, hp', asAddr, h1, Result.andThen]

set_option maxRecDepth 100000 in
set_option maxHeartbeats 4000000 in
theorem TakeH_len (s : ByteArray) (h : s.size ≠ 64) (w : World) :
    Calls Try.prog 17 #[.string s] w fun e w' => e = .returned (.tuple #[.agg #[.int .u64 0, .int .i64 0, .int .i64 0, .slice none 0 0], .int .i64 1]) ∧ Below w.heap.size w w' := by
  have hi : ¬ (s.size : Int) = 64 := by omega
  have hi2 : ((s.size : Int) != 64) = true := by simpa using hi
  have C := (Crew.start w).block #[.int .u64 0, .int .i64 0, .int .i64 0, .slice none 0 0] 31
  obtain ⟨O, ⟨hblk, _⟩, _⟩ := C.one (i := 0) rfl
  have HBLK := Lib.hid hblk
  have HB := Lib.hid C.bel
  clear C hblk h
  go_enter Try.func17, Try.ntmps17
  go_wp2_with fail
  exact bodyPost_ret (zero_headR HBLK.out _ 2 3 rfl _ rfl) rfl ⟨rfl, HB.out⟩

set_option maxRecDepth 100000 in
set_option maxHeartbeats 4000000 in
theorem TakeH_sum (s : ByteArray) (h : s.size = 64) (hne : sealedB (ahead s) ≠ s) (w : World) :
    Calls Try.prog 17 #[.string s] w fun e w' => e = .returned (.tuple #[.agg #[.int .u64 0, .int .i64 0, .int .i64 0, .slice none 0 0], .int .i64 9]) ∧ Below w.heap.size w w' := by
  have hi : (s.size : Int) = 64 := by omega
  have HT := Lib.hid (fun W => TakeR_bad s (by omega) (by rw [h]; decide) hne W)
  have C := (Crew.start w).block #[.int .u64 0, .int .i64 0, .int .i64 0, .slice none 0 0] 31
  have HC := Lib.hid C
  clear C h hne
  go_enter Try.func17, Try.ntmps17
  go_wp2_with fail
  refine (HT.out _).mono ?_
  rintro e w1 ⟨rfl, hb1⟩
  have C := HC.out.below hb1
  have d0 := (C.at 0 rfl (j := 0) rfl).1
  have d1 := (C.at 0 rfl (j := 1) rfl).1
  have d2 := (C.at 0 rfl (j := 2) rfl).1
  have d3 := (C.at 0 rfl (j := 3) rfl).1
  have e0 := (C.at 0 rfl (j := 0) rfl).2
  have e1 := (C.at 0 rfl (j := 1) rfl).2
  have e2 := (C.at 0 rfl (j := 2) rfl).2
  have e3 := (C.at 0 rfl (j := 3) rfl).2
  have CF := C.set4 0 rfl (.int .u64 0) (.int .i64 0) (.int .i64 0) (.slice none 0 0)
  obtain ⟨O, ⟨hblk, _⟩, _⟩ := CF.one (i := 0) rfl
  have HBLK := Lib.hid hblk
  have HB := Lib.hid CF.bel
  clear C CF hblk HC hb1
  go_wp2_with fail
  exact bodyPost_ret (zero_headR HBLK.out _ 2 3 rfl _ rfl) rfl ⟨rfl, HB.out⟩

set_option maxRecDepth 100000 in
set_option maxHeartbeats 4000000 in
theorem TakeH_many (t : ByteArray) (ht : t.size = 60) (hm : 8 < many t.data.toList) (w : World) :
    Calls Try.prog 17 #[.string (sealedB t)] w fun e w' => e = .returned (.tuple #[.agg #[.int .u64 0, .int .i64 0, .int .i64 0, .slice none 0 0], .int .i64 2]) ∧ Below w.heap.size w w' := by
  have hi : ((sealedB t).size : Int) = 64 := by rw [sealed_size]; omega
  have HT := Lib.hid (fun W => by
    have := TakeR_any (sealedB t) (by rw [sealed_size, ht]; decide) W
    rw [(tk_sealed t).1, (tk_sealed t).2] at this
    exact this)
  have C := (Crew.start w).block #[.int .u64 0, .int .i64 0, .int .i64 0, .slice none 0 0] 31
  have HC := Lib.hid C
  have h18 : 18 < t.size := by omega
  have hmm : 8 < (t[18]).toNat := by
    rw [many_at _ (by rw [← size_list]; exact h18)] at hm
    exact hm
  clear C hm
  generalize sealedB t = S at *
  go_enter Try.func17, Try.ntmps17
  go_wp2_with fail
  refine (HT.out _).mono ?_
  rintro e w1 ⟨rfl, hb1⟩
  have C := HC.out.below hb1
  have d0 := (C.at 0 rfl (j := 0) rfl).1
  have d1 := (C.at 0 rfl (j := 1) rfl).1
  have d2 := (C.at 0 rfl (j := 2) rfl).1
  have d3 := (C.at 0 rfl (j := 3) rfl).1
  have e0 := (C.at 0 rfl (j := 0) rfl).2
  have e1 := (C.at 0 rfl (j := 1) rfl).2
  have e2 := (C.at 0 rfl (j := 2) rfl).2
  have e3 := (C.at 0 rfl (j := 3) rfl).2
  have CF := C.set4 0 rfl (.int .u64 0) (.int .i64 0) (.int .i64 0) (.slice none 0 0)
  obtain ⟨O, ⟨hblk, _⟩, _⟩ := CF.one (i := 0) rfl
  have HBLK := Lib.hid hblk
  have HB := Lib.hid CF.bel
  have hmI : (8 : Int) < ((t[18]).toNat : Int) := by omega
  have hbyte : (t[18]).toNat ≤ 255 := by
    have := (t[18]).toNat_lt
    omega
  clear C CF hblk HC hb1
  go_wp2_with fail
  exact bodyPost_ret (zero_headR HBLK.out _ 2 3 rfl _ rfl) rfl ⟨rfl, HB.out⟩

end Go.Proofs.Ytnknojkihjpjkaa
