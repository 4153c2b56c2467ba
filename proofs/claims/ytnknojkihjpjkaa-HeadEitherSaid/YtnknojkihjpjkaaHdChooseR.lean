/-
  Which of two heads counts: the document's word. Conditions: as each theorem states them.
-/
import Derived.Test.YtnknojkihjpjkaaHdChoose
import Derived.Test.YtnknojkihjpjkaaHdTakeT
namespace Go.Proofs.Ytnknojkihjpjkaa
open Go.RowKit Go.Rc5 Go.Rc6

theorem TakeH_all (s : ByteArray) (w : World) : Calls Try.prog 17 #[.string s] w (TookAt (took s) w) := by
  by_cases hx : ∃ h : Hd, h.Ok ∧ hdB h = s
  · obtain ⟨h, k, rfl⟩ := hx
    rw [took_yes k]
    exact TakeH_yes h k w
  · rw [took_no hx]
    refine (TakeH_no s hx w).mono ?_
    rintro e w' ⟨rfl, hb⟩
    exact ⟨_, rfl, fresh_none hb⟩

theorem row_tmpsR {W : World} {b : Nat} {cs : Array Value} (hcs : cs.size = 4) (h : W.heap[b]? = some (.cells cs 31 (0, 0))) (fn : Func) (p q r : Tmp) (hr : fn.results = #[.cell p 31, .tmp q, .tmp r]) (tmps : Array Value)
    (hp : tmps.getD p undef = .pointer (some ⟨b, 0, none⟩)) :
    (results fn tmps).run Try.prog W = .ok (.tuple #[.agg cs, tmps.getD q undef, tmps.getD r undef]) W :=
  results_row_tmps hr tmps W b 31 cs (0, 0) _ hp h Try.underlying31 rfl (by rw [hcs]; kernel_rfl)

set_option maxRecDepth 100000 in
set_option maxHeartbeats 8000000 in
theorem ChooseR_all (s t : ByteArray) (w : World) : Calls Try.prog 19 #[.string s, .string t] w (ChoseAt (took s) (took t) w) := by
  have HX := Lib.hid (TakeH_all s)
  have HY := Lib.hid (TakeH_all t)
  generalize took s = x at *
  generalize took t = y at *
  have HC := Lib.hid ((Crew.start w).block #[.int .u64 0, .int .i64 0, .int .i64 0, .slice none 0 0] 31)
  go_enter Try.func19, Try.ntmps19
  go_wp2_with fail
  refine (HX.out _).mono ?_
  rintro e w1 ⟨v1, rfl, hf1⟩
  obtain ⟨a1, q1, hv1, _⟩ := row_of2 hf1
  obtain ⟨m1, hm1⟩ : ∃ m, (castS x.spans).length = m := ⟨_, rfl⟩
  rw [hm1] at hv1
  subst hv1
  have hC := HC.out.more hf1
  replace HC := Lib.hid (hC.block #[.int .u64 (x.gen : Int), .int .i64 (x.sectors : Int), .int .i64 (x.size : Int), .slice a1 m1 q1] 31)
  clear hC hf1 hm1
  go_wp2_with fail
  refine (HY.out _).mono ?_
  rintro e w2 ⟨v2, rfl, hf2⟩
  obtain ⟨a2, q2, hv2, _⟩ := row_of2 hf2
  obtain ⟨m2, hm2⟩ : ∃ m, (castS y.spans).length = m := ⟨_, rfl⟩
  rw [hm2] at hv2
  subst hv2
  have hC := HC.out.more hf2
  replace HC := Lib.hid (hC.block #[.int .u64 (y.gen : Int), .int .i64 (y.sectors : Int), .int .i64 (y.size : Int), .slice a2 m2 q2] 31)
  clear hC hf2 HX HY hm2
  obtain ⟨g1, s1, z1, l1, e1⟩ := x
  obtain ⟨g2, s2, z2, l2, e2⟩ := y
  dsimp only at HC ⊢
  obtain ⟨b1, hb1⟩ : ∃ b, w1.heap.size = b := ⟨_, rfl⟩
  rw [hb1] at HC ⊢
  have C := HC.out
  have p0 := (C.at 2 rfl (j := 0) rfl).1
  have p1 := (C.at 2 rfl (j := 1) rfl).1
  have p2 := (C.at 2 rfl (j := 2) rfl).1
  have p3 := (C.at 2 rfl (j := 3) rfl).1
  have d0 := (C.at 0 rfl (j := 0) rfl).1
  have d1 := (C.at 0 rfl (j := 1) rfl).1
  have d2 := (C.at 0 rfl (j := 2) rfl).1
  have d3 := (C.at 0 rfl (j := 3) rfl).1
  have f0 := (C.at 0 rfl (j := 0) rfl).2
  have f1 := (C.at 0 rfl (j := 1) rfl).2
  have f2 := (C.at 0 rfl (j := 2) rfl).2
  have f3 := (C.at 0 rfl (j := 3) rfl).2
  have k0 := (C.at 4 rfl (j := 0) rfl).1
  have k1 := (C.at 4 rfl (j := 1) rfl).1
  have k2 := (C.at 4 rfl (j := 2) rfl).1
  have k3 := (C.at 4 rfl (j := 3) rfl).1
  have CZ := (C.set4 0 rfl (.int .u64 0) (.int .i64 0) (.int .i64 0) (.slice none 0 0)).nil 53 2
  have CX := C.set4 0 rfl (.int .u64 (g1 : Int)) (.int .i64 (s1 : Int)) (.int .i64 (z1 : Int)) (.slice a1 m1 q1)
  have CY := C.set4 0 rfl (.int .u64 (g2 : Int)) (.int .i64 (s2 : Int)) (.int .i64 (z2 : Int)) (.slice a2 m2 q2)
  have HFZ := Lib.hid ((CZ.pick [5] (by decide) rfl).fresh)
  have HFX := Lib.hid ((CX.pick [1] (by decide) rfl).fresh)
  have HFY := Lib.hid ((CY.pick [3] (by decide) rfl).fresh)
  obtain ⟨O, ⟨hz, _⟩, _⟩ := CZ.one (i := 0) rfl
  obtain ⟨O2, ⟨hx, _⟩, _⟩ := CX.one (i := 0) rfl
  obtain ⟨O3, ⟨hy, _⟩, _⟩ := CY.one (i := 0) rfl
  have HZ := Lib.hid hz
  have HX := Lib.hid hx
  have HY := Lib.hid hy
  clear C CZ CX CY hz hx hy HC
  by_cases h1 : e1 = 0
  · subst h1
    by_cases h2 : e2 = 0
    · subst h2
      by_cases h3 : g1 < g2
      · have h4 : (g1 : Int) < g2 := by omega
        have HCH : Hid (choice ⟨g1, s1, z1, l1, 0⟩ ⟨g2, s2, z2, l2, 0⟩ = (⟨g2, s2, z2, l2, 0⟩, 1, 0)) := by
          unfold choice
          rw [if_neg (by simp), if_pos (.inr ⟨rfl, h3⟩)]
          exact rfl
        go_wp2_with fail
        refine bodyPost_ret (row_tmpsR rfl HY.out _ 4 5 6 rfl _ rfl) rfl ⟨.slice a2 m2 q2, ?_, ?_⟩
        · rw [HCH.out]
          exact rfl
        · rw [HCH.out]
          exact HFY.out
      · have h4 : ¬ (g1 : Int) < g2 := by omega
        have HCH : Hid (choice ⟨g1, s1, z1, l1, 0⟩ ⟨g2, s2, z2, l2, 0⟩ = (⟨g1, s1, z1, l1, 0⟩, 0, 0)) := by
          unfold choice
          rw [if_neg (by simp), if_neg (by simp only; omega)]
          exact rfl
        go_wp2_with fail
        refine bodyPost_ret (row_tmpsR rfl HX.out _ 4 5 6 rfl _ rfl) rfl ⟨.slice a1 m1 q1, ?_, ?_⟩
        · rw [HCH.out]
          exact rfl
        · rw [HCH.out]
          exact HFX.out
    · have h4 : (e2 != 0) = true := by simpa using h2
      have h6 : (e2 == 0) = false := by simpa using h2
      have HCH : Hid (choice ⟨g1, s1, z1, l1, 0⟩ ⟨g2, s2, z2, l2, e2⟩ = (⟨g1, s1, z1, l1, 0⟩, 0, 0)) := by
        unfold choice
        rw [if_neg (by simp), if_neg (by simp only; omega)]
        exact rfl
      go_wp2_with fail
      refine bodyPost_ret (row_tmpsR rfl HX.out _ 4 5 6 rfl _ rfl) rfl ⟨.slice a1 m1 q1, ?_, ?_⟩
      · rw [HCH.out]
        exact rfl
      · rw [HCH.out]
        exact HFX.out
  · have h5 : (e1 != 0) = true := by simpa using h1
    by_cases h2 : e2 = 0
    · subst h2
      have HCH : Hid (choice ⟨g1, s1, z1, l1, e1⟩ ⟨g2, s2, z2, l2, 0⟩ = (⟨g2, s2, z2, l2, 0⟩, 1, 0)) := by
        unfold choice
        rw [if_neg (by simp), if_pos (.inl h1)]
        exact rfl
      go_wp2_with fail
      refine bodyPost_ret (row_tmpsR rfl HY.out _ 4 5 6 rfl _ rfl) rfl ⟨.slice a2 m2 q2, ?_, ?_⟩
      · rw [HCH.out]
        exact rfl
      · rw [HCH.out]
        exact HFY.out
    · have h4 : (e2 != 0) = true := by simpa using h2
      have h6 : (e2 == 0) = false := by simpa using h2
      have HCH : Hid (choice ⟨g1, s1, z1, l1, e1⟩ ⟨g2, s2, z2, l2, e2⟩ = (⟨0, 0, 0, [], 0⟩, 0, 2)) := by
        unfold choice
        rw [if_pos ⟨h1, h2⟩]
        exact rfl
      go_wp2_with fail
      refine bodyPost_ret (row_tmpsR rfl HZ.out _ 4 5 6 rfl _ rfl) rfl ⟨.slice none 0 0, ?_, ?_⟩
      · rw [HCH.out]
        exact rfl
      · rw [HCH.out]
        exact HFZ.out

end Go.Proofs.Ytnknojkihjpjkaa
