/-
  LeBad: for every input the law answers true: a reader that is bad stays so, and takes nothing more. Conditions: none.
-/
import Derived.Test.YtodidacblnhmgaaLeLaw
import Derived.BigCall
import Derived.BigGuard
namespace Go.Proofs.Ytodidacblnhmgaa.leBad
open Go.ChangeShapes Go.WideShapes Go.ChangeAt Go.RowKit
open Go.ChangeMaps (open_string shut_string)

theorem nine (b : Nat) (s : ByteArray) (bad : Bool) (hs : s.size ≤ maxLen) (w : World) (h : Rd 30 b s bad w) :
    Calls Try.prog 15 #[.pointer (some ⟨b, 0, none⟩), .int .i64 9] w fun e w' => e = .returned (.int .u64 0) ∧ Rd 30 b s true w' ∧ Kept b w w' := by
  have e : (bad || decide ((8 : Int) < 9)) = true := by simp
  have h1 := Number_any b s bad 9 hs w h
  unfold num at h1
  rw [e] at h1
  exact h1

theorem bad_stays (b : Nat) (s : ByteArray) (y : Int) (w : World) (h : Rd 30 b s true w) :
    Calls Try.prog 17 #[.pointer (some ⟨b, 0, none⟩), .int .i64 y] w fun e w' => e = .returned (.string .empty) ∧ Rd 30 b s true w' ∧ Kept b w w' :=
  Text_any b s true y w h

/-- What is taken, when there is enough. -/
theorem taken (s : ByteArray) (y : Int) (h : no s false y = false) (hs : s.size ≤ maxLen) :
    txt s false y ++ lft s false y = s ∧ ((txt s false y).size : Int) = y ∧ ¬ 9223372036854775807 < (txt s false y).size + (lft s false y).size := by
  have e1 : txt s false y = s.extract 0 y.toNat := by unfold txt; rw [h]; rfl
  have e2 : lft s false y = s.extract y.toNat s.size := by unfold lft; rw [h]; rfl
  unfold no at h
  simp only [Bool.false_or, Bool.or_eq_false_iff, decide_eq_false_iff_not] at h
  unfold maxLen at hs
  rw [e1, e2]
  refine ⟨?_, ?_, ?_⟩
  · have := ByteArray.extract_append_extract (a := s) (i := 0) (j := y.toNat) (k := s.size)
    rw [this, show min 0 y.toNat = 0 by omega, show max y.toNat s.size = s.size by omega, extract_all]
  · rw [ByteArray.size_extract]; omega
  · rw [ByteArray.size_extract, ByteArray.size_extract]; omega

set_option maxHeartbeats 2000000 in
set_option maxRecDepth 100000 in
theorem some_row (a0 : ByteArray) (x : Addr) (len cap : Nat) (z : List Int) (w : World) (w0 : a0.size ≤ maxLen) (hl : len ≤ 60)
    (hrow : Hid (∀ i, i < len → w.cell? (x.add i) = some (.int .i64 (z.getD i 0)))) :
    Calls Try.prog 7 #[.string a0, .slice (some x) len cap] w fun e w' => e = .returned (.bool true) ∧ Below w.heap.size w w' := by
  have hl' : ¬ (60 : Int) < len := by omega
  go_enter Try.func7, Try.ntmps7
  simp only [List.append_eq, List.cons_append, List.nil_append]
  go_wp2_with (go_at_call 10; refine (shown_any _).mono ?_; rintro e w1 ⟨rfl, hbw⟩)
  have hsz := Lib.hid hbw.size
  go_loopw [7] (fun i wr => ∃ (k : Nat) (s : ByteArray) (bad : Bool), i = .int .i64 k ∧ k ≤ len ∧ s.size ≤ maxLen ∧ Rd 30 w1.heap.size s bad wr ∧ Below w.heap.size w wr) (fun i _ => (len - intOf i).toNat)
  case atStart => exact ⟨0, a0, false, rfl, Nat.zero_le _, w0, Rd.new 30 a0 false w1, hbw.alloc hsz.out _⟩
  case round =>
    obtain ⟨k, s, bad, rfl, hk, hs, hr, hb⟩ := hrel
    have c0 : wr.cell? ⟨w1.heap.size, 0, none⟩ = some (.string s) := by rw [Lib.cell_of_heap hr]; rfl
    have c1 : wr.cell? ⟨w1.heap.size, 1, none⟩ = some (.bool bad) := by rw [Lib.cell_of_heap hr]; rfl
    have HR := Lib.hid hr
    have HSZ := Lib.hid hs
    clear hr hs
    by_cases hlt : k < len
    · have hlt' : (k : Int) < len := by omega
      have hc := hrow.out k hlt
      generalize z.getD k 0 = y at hc
      have HC := Lib.hid (fun (w' : World) (h : Below w.heap.size w w') => (h.cell (row_block hc)).trans hc)
      clear hc
      have hc := HC.out wr hb
      cases bad with
      | true =>
        have HT := Lib.hid (bad_stays _ s y _ HR.out)
        go_wp2_with (go_at_call 17; refine HT.out.mono ?_; rintro e w2 ⟨rfl, hr2, hk2⟩; have hb2 : Below w.heap.size w w2 := hb.trans (hk2.below hsz.out); have hc2 := HC.out w2 hb2; have d0 : w2.cell? ⟨w1.heap.size, 0, none⟩ = some (.string s) := (by rw [Lib.cell_of_heap hr2]; rfl); have d1 : w2.cell? ⟨w1.heap.size, 1, none⟩ = some (.bool true) := (by rw [Lib.cell_of_heap hr2]; rfl); have HR2 := Lib.hid hr2; clear hr2 hk2)
        go_roundw
        case rel => exact ⟨k + 1, s, true, by go_num, by omega, HSZ.out, HR2.out, hb2⟩
        case measure => simp [intOf]; omega
      | false =>
        cases hno : no s false y with
        | true =>
          have hlf : lft s false y = s := by unfold lft; rw [hno]; rfl
          have htx : txt s false y = .empty := by unfold txt; rw [hno]; rfl
          have HT := Text_any _ s false y _ HR.out
          rw [hlf, htx, hno] at HT
          have HT := Lib.hid HT
          clear hlf htx hno
          go_wp2_with (go_at_call 17; refine HT.out.mono ?_; rintro e w2 ⟨rfl, hr2, hk2⟩; have hb2 : Below w.heap.size w w2 := hb.trans (hk2.below hsz.out); have hc2 := HC.out w2 hb2; have d0 : w2.cell? ⟨w1.heap.size, 0, none⟩ = some (.string s) := (by rw [Lib.cell_of_heap hr2]; rfl); have d1 : w2.cell? ⟨w1.heap.size, 1, none⟩ = some (.bool true) := (by rw [Lib.cell_of_heap hr2]; rfl); have HR2 := Lib.hid hr2; clear hr2 hk2)
          go_roundw
          case rel => exact ⟨k + 1, s, true, by go_num, by omega, HSZ.out, HR2.out, hb2⟩
          case measure => simp [intOf]; omega
        | false =>
          obtain ⟨h1, h2, h3⟩ := taken s y hno HSZ.out
          have h3 : (9223372036854775807 < (txt s false y).size + (lft s false y).size) = False := eq_false h3
          have hs' := Lib.hid (lft_le s false y HSZ.out)
          have HT := Text_any _ s false y _ HR.out
          rw [hno] at HT
          have HT := Lib.hid HT
          clear hno
          generalize lft s false y = s' at *
          generalize txt s false y = t' at *
          go_wp2_with (go_at_call 17; refine HT.out.mono ?_; rintro e w2 ⟨rfl, hr2, hk2⟩; have hb2 : Below w.heap.size w w2 := hb.trans (hk2.below hsz.out); have hc2 := HC.out w2 hb2; have d0 : w2.cell? ⟨w1.heap.size, 0, none⟩ = some (.string s') := (by rw [Lib.cell_of_heap hr2]; rfl); have d1 : w2.cell? ⟨w1.heap.size, 1, none⟩ = some (.bool false) := (by rw [Lib.cell_of_heap hr2]; rfl); have HR2 := Lib.hid hr2; clear hr2 hk2)
          go_roundw
          case rel => exact ⟨k + 1, s', false, by go_num, by omega, hs'.out, HR2.out, hb2⟩
          case measure => simp [intOf]; omega
    · have hlt' : ¬ (k : Int) < len := by omega
      have HN := Lib.hid (nine _ s bad HSZ.out _ HR.out)
      go_wp2_with (first | (go_at_call 15; refine HN.out.mono ?_; rintro e w2 ⟨rfl, hr2, hk2⟩; have hb2 : Below w.heap.size w w2 := hb.trans (hk2.below hsz.out); have c2 : w2.cell? ⟨w1.heap.size, 1, none⟩ = some (.bool true) := (by rw [Lib.cell_of_heap hr2]; rfl); have HO := Lib.hid (Over_any _ _ _ _ hr2); clear hr2) | (go_at_call 19; refine HO.out.mono ?_; rintro e w3 ⟨rfl, rfl⟩))
      go_ret
      exact ⟨rfl, hb2⟩

set_option maxHeartbeats 1000000 in
theorem long_row (a0 : ByteArray) (a : Option Addr) (len cap : Nat) (w : World) (hl : 60 < (len : Int)) :
    Calls Try.prog 7 #[.string a0, .slice a len cap] w fun e w' => e = .returned (.bool true) ∧ Below w.heap.size w w' := by
  go_enter Try.func7, Try.ntmps7
  simp only [List.append_eq, List.cons_append, List.nil_append]
  go_wp2_with (go_at_call 10; refine (shown_any _).mono ?_; rintro e w1 ⟨rfl, hbw⟩)
  go_ret
  exact ⟨rfl, hbw⟩

set_option maxHeartbeats 1000000 in
theorem no_row (a0 : ByteArray) (w0 : a0.size ≤ maxLen) (a : Option Addr) (cap : Nat) (w : World) :
    Calls Try.prog 7 #[.string a0, .slice a 0 cap] w fun e w' => e = .returned (.bool true) ∧ Below w.heap.size w w' := by
  go_enter Try.func7, Try.ntmps7
  simp only [List.append_eq, List.cons_append, List.nil_append]
  go_wp2_with (go_at_call 10; refine (shown_any _).mono ?_; rintro e w1 ⟨rfl, hbw⟩)
  have hsz := Lib.hid hbw.size
  go_loopw [7] (fun i wr => i = .int .i64 0 ∧ Rd 30 w1.heap.size a0 false wr ∧ Below w.heap.size w wr) (fun _ _ => 0)
  case atStart => exact ⟨rfl, Rd.new 30 a0 false w1, hbw.alloc hsz.out _⟩
  case round =>
    obtain ⟨rfl, hr, hb⟩ := hrel
    have HN := Lib.hid (nine _ a0 false w0 _ hr)
    clear hr
    go_wp2_with (first | (go_at_call 15; refine HN.out.mono ?_; rintro e w2 ⟨rfl, hr2, hk2⟩; have hb2 : Below w.heap.size w w2 := hb.trans (hk2.below hsz.out); have c2 : w2.cell? ⟨w1.heap.size, 1, none⟩ = some (.bool true) := (by rw [Lib.cell_of_heap hr2]; rfl); have HO := Lib.hid (Over_any _ _ _ _ hr2); clear hr2) | (go_at_call 19; refine HO.out.mono ?_; rintro e w3 ⟨rfl, rfl⟩))
    go_ret
    exact ⟨rfl, hb2⟩

theorem walk (a0 : ByteArray) (w0 : a0.size ≤ maxLen) (a : Option Addr) (len cap : Nat) (z : List Int) (w : World) (w1 : IsRow .i64 w a len cap z) :
    Calls Try.prog 7 #[.string a0, .slice a len cap] w fun e w' => e = .returned (.bool true) ∧ Below w.heap.size w w' := by
  by_cases hl : len ≤ 60
  · rcases w1 with ⟨rfl, rfl, rfl, rfl⟩ | ⟨x, rfl, h1, _, h3, h4, _⟩
    · exact no_row a0 w0 none 0 w
    · exact some_row a0 x len cap z w w0 hl (fun i hi => h4 i (by omega))
  · exact long_row a0 a len cap w (by omega)

set_option maxRecDepth 100000 in
theorem lifted (os : Os) (started : os.Started) (H : Type) (enc : TypeId × Value → H) :
    ReturnsInHanded {} Try.checked os 7 .any (Rows.leBadSpec.pre6 enc Try.prog Try.f7 Rows.leBadRow.domain false) (Rows.leBadSpec.post enc Try.prog Try.f7 false true false false) := by
  refine returnsInHanded_of_change (C := Try.checked) own started (by kernel_rfl) Try.func7
    (ChangeSpec.witness6 (enc := enc) (C := Try.checked) false ⟨#[], #[.string ByteArray.empty, .slice none 0 0], []⟩ 8 (by kernel_rfl) (by kernel_rfl) (by kernel_rfl) (by kernel_rfl)) ?_
  intro W base args ds gs before hval0 hW _ _
  have hval : ∀ (j : Nat) t v, Try.f7.params[j]? = some t → args[j]? = some v → Value.okWide Try.prog W .any base t v := hval0
  have hW' := hW
  obtain ⟨p, q, hA0, hV, rfl, hfz, hnd⟩ := hW
  have hA : DataW.TrodAll enc Try.prog W 0 (fun _ => true) true Try.f7.params.toList args.toList ds p := hA0
  rw [Try.params7] at hA hval
  obtain ⟨v0, vs0, d0, ds0, p0, q0, hargs, rfl, rfl, h0, r0⟩ := trodAll_cons hA
  obtain ⟨v1, vs1, d1, ds1, p1, q1, rfl, rfl, rfl, h1, r1⟩ := trodAll_cons r0
  obtain ⟨rfl, rfl, rfl⟩ := trodAll_nil r1
  obtain rfl : args = #[v0, v1] := by cases args; simp_all
  obtain ⟨rfl, rfl⟩ := trodVars_none hV
  obtain ⟨a0, rfl, rfl, rfl, w0⟩ := open_string Try.underlying9 (hval 0 9 v0 rfl rfl) h0
  obtain ⟨a1, len1, cap1, rfl⟩ := okWide_slice Try.underlying27 (hval 1 27 v1 rfl rfl)
  have k1 := h1
  have lt1 : ∀ x ∈ p1, x.block < W.heap.size := by obtain ⟨m, hm⟩ := k1; exact DataW.trod_lt m _ _ _ hm
  obtain ⟨z1, w1⟩ : ∃ zs, IsRow .i64 W a1 len1 cap1 zs := by
    obtain ⟨fuel, hf⟩ := h1
    rcases open_ints Try.underlying27 Try.underlying3 (by kernel_rfl) hf with ⟨hcs, _⟩ | ⟨x, l, c, zs, hcs, _, hl, hm, hz, _, hcell, hwz⟩
    · simp [Value.cells] at hcs
      obtain ⟨rfl, rfl, rfl⟩ := hcs
      exact ⟨[], .inl ⟨rfl, rfl, rfl, rfl⟩⟩
    · simp [Value.cells] at hcs
      obtain ⟨rfl, rfl, rfl⟩ := hcs
      exact ⟨zs, .inr ⟨_, rfl, hl, hm, by simpa using hz, hcell, hwz⟩⟩
  clear hA0 hval0
  refine (walk a0 w0 a1 len1 cap1 z1 W w1).mono fun e W' ⟨he, bel⟩ => ?_
  subst he
  exact ⟨_, rfl, _, _, _, [], _, [], hW', trodAll_mk1 (shut_bool Try.underlying4 _), (trodAll_cons_mk (shut_string Try.underlying9 w0) (trodAll_cons_mk (Below.trod laidOut (by kernel_rfl) (of_decide_eq_true (by kernel_rfl)) k1 bel lt1) trodAll_mk0)), rfl, bel.frame _, fun h => by cases h⟩

theorem holds : Rows.LeBadSaid :=
  OpenClaim.holds_of_wide 7 Try.f7 rfl rfl rfl rfl rfl rfl rfl ⟨rfl, rfl, rfl, rfl, rfl⟩ rfl rfl rfl rfl rfl (by kernel_rfl) Try.func7 (by kernel_rfl)
    (of_decide_eq_true (by kernel_rfl)) (by unfold Func.isWrapper; first | (rw [if_pos (by decide +kernel)]; kernel_rfl) | (rw [if_neg (by decide +kernel)]; exact ⟨rfl, rfl⟩))
    (fun os started H enc _ => lifted os started H enc)

end Go.Proofs.Ytodidacblnhmgaa.leBad
