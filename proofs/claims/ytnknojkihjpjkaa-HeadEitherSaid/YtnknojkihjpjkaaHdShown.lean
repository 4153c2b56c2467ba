/-
  The chapter's examples of heads come out true. Condition: none.
-/
import Derived.Test.YtnknojkihjpjkaaHdLaw
namespace Go.Rc6
open Go.Rc5

theorem text_magic (h : Hd) : ∃ r, text h = magic ++ r := ⟨_, by rw [text, body, List.append_assoc]⟩

def hdA : Hd := ⟨7, 9, 65, [(2, 2)]⟩
def hdC : Hd := ⟨8, 9, 0, []⟩

theorem okA : hdA.Ok := ⟨by decide, by decide, by decide, by decide, ⟨by decide, by decide, trivial⟩, by decide, by decide, by decide, by decide⟩
theorem okC : hdC.Ok := ⟨by decide, by decide, by decide, by decide, trivial, by decide, by decide, by decide, by decide⟩

end Go.Rc6
namespace Go.Proofs.Ytnknojkihjpjkaa
open Go.RowKit Go.Rc5 Go.Rc6

theorem hdB_magic (h : Hd) : ∃ r, (hdB h).data.toList = magic ++ r := by
  obtain ⟨r, hr⟩ := text_magic h
  unfold hdB
  rw [sealed_list, show (ByteArray.mk (text h).toArray).data.toList = text h from rfl, hr, List.append_assoc]
  exact ⟨_, rfl⟩

/-- A text that begins otherwise is no head's. -/
theorem not_head {s : ByteArray} (j : Nat) (hj : j < 4) (x : UInt8) (hx : s.data.toList[j]? = some x) (hne : magic[j]? ≠ some x) : ¬ ∃ h : Hd, h.Ok ∧ hdB h = s := by
  rintro ⟨h, _, rfl⟩
  obtain ⟨r, hr⟩ := hdB_magic h
  rw [hr, List.getElem?_append_left (by exact hj)] at hx
  exact hne hx

theorem choice_first {x y : Took} (hx : x.err = 0) (hy : y.err ≠ 0) : choice x y = (x, 0, 0) := by
  unfold choice
  rw [if_neg (fun h => h.1 hx), if_neg (fun h => h.elim (fun h => h hx) (fun h => hy h.1))]

theorem choice_second {x y : Took} (hx : x.err ≠ 0) (hy : y.err = 0) : choice x y = (y, 1, 0) := by
  unfold choice
  rw [if_neg (fun h => h.2 hy), if_pos (.inl hx)]

theorem choice_later {x y : Took} (hx : x.err = 0) (hy : y.err = 0) (h : x.gen < y.gen) : choice x y = (y, 1, 0) := by
  unfold choice
  rw [if_neg (fun h => h.1 hx), if_pos (.inr ⟨hy, h⟩)]

theorem choice_elder {x y : Took} (hx : x.err = 0) (_ : y.err = 0) (h : ¬ x.gen < y.gen) : choice x y = (x, 0, 0) := by
  unfold choice
  rw [if_neg (fun h => h.1 hx), if_neg (fun k => k.elim (fun k => k hx) (fun k => h k.2))]

theorem choice_none {x y : Took} (hx : x.err ≠ 0) (hy : y.err ≠ 0) : choice x y = (⟨0, 0, 0, [], 0⟩, 0, 2) := by
  unfold choice
  rw [if_pos ⟨hx, hy⟩]

theorem lit_spans (L : List SpI) (w : World) : SpansAt (w.alloc (.cells (flatI L).toArray 53)) (some ⟨w.heap.size, 0, none⟩) L := by
  intro i hi
  obtain ⟨h0, h1⟩ := flatI_at L i hi
  refine ⟨_, rfl, ?_, ?_⟩
  · rw [add_own, World.cell?_alloc_new]
    simpa using h0
  · rw [add_own, World.cell?_alloc_new]
    simpa using h1

set_option maxRecDepth 100000 in
set_option maxHeartbeats 8000000 in
theorem shown_any (w : World) : Calls Try.prog 9 #[] w fun e w' => e = .returned (.bool true) ∧ Below w.heap.size w w' := by
  have hPA : Calls Try.prog 10 #[.agg #[.int .u64 7, .int .i64 9, .int .i64 65, .slice (some ⟨w.heap.size, 0, none⟩) 1 1]] (w.alloc (.cells #[.int .i64 2, .int .i64 2] 53)) fun e w' => e = .returned (.tuple #[.string (hdB hdA), .int .i64 0]) ∧ Below (w.alloc (.cells #[.int .i64 2, .int .i64 2] 53)).heap.size (w.alloc (.cells #[.int .i64 2, .int .i64 2] 53)) w' :=
    Put_yes hdA okA _ 1 1 _ (lit_spans [(2, 2)] w) rfl
  have hPC : ∀ W, Calls Try.prog 10 #[.agg #[.int .u64 8, .int .i64 9, .int .i64 0, .slice none 0 0]] W fun e w' => e = .returned (.tuple #[.string (hdB hdC), .int .i64 0]) ∧ Below W.heap.size W w' := fun W =>
    Put_yes hdC okC none 0 0 W (fun _ hi => absurd hi (Nat.not_lt_zero _)) rfl
  have hzA := hdB_size hdA okA
  have hzC := hdB_size hdC okC
  have tA := took_yes okA
  have tC := took_yes okC
  have tQ := took_no (not_head (s := (⟨#[113]⟩ : ByteArray) ++ (hdB hdC).extract 1 (hdB hdC).size) 0 (by decide) 113 (by rw [list_append]; rfl) (by decide))
  have eQ := takeErr_ne ((⟨#[113]⟩ : ByteArray) ++ (hdB hdC).extract 1 (hdB hdC).size)
  have hC1 := Choose_all (hdB hdA) (hdB hdC)
  have hC2 := Choose_all (hdB hdA) ((⟨#[113]⟩ : ByteArray) ++ (hdB hdC).extract 1 (hdB hdC).size)
  unfold ChoseAt at hC1 hC2
  rw [tA, tC, choice_later rfl rfl (by decide)] at hC1
  rw [tA, tQ, choice_first rfl eQ] at hC2
  have HC1 : Hid (∀ W, Calls Try.prog 18 #[.string (hdB hdA), .string (hdB hdC)] W fun e w' => ∃ v, e = .returned (.tuple #[.agg #[.int .u64 8, .int .i64 9, .int .i64 0, v], .int .i64 1, .int .i64 0]) ∧ Fresh (spT v []) W w') := hC1
  have HC2 : Hid (∀ W, Calls Try.prog 18 #[.string (hdB hdA), .string ((⟨#[113]⟩ : ByteArray) ++ (hdB hdC).extract 1 (hdB hdC).size)] W fun e w' => ∃ v, e = .returned (.tuple #[.agg #[.int .u64 7, .int .i64 9, .int .i64 65, v], .int .i64 0, .int .i64 0]) ∧ Fresh (spT v [(2, 2)]) W w') := hC2
  have HPA := Lib.hid hPA
  have HPC := Lib.hid hPC
  clear hPA hPC tA tC tQ eQ hC1 hC2
  generalize hdB hdA = A at *
  generalize hdB hdC = C at *
  rw [hzC] at HC2
  have hA : (A.size : Int) = 64 := by omega
  have hC : (C.size : Int) = 64 := by omega
  have h1 : (1 : Int) ≤ C.size := by omega
  have hadd : (9223372036854775807 < 1 + (C.size - 1)) = False := eq_false (by omega)
  clear hzA
  go_enter Try.func9, Try.ntmps9
  go_wp2_with fail
  refine HPA.out.mono ?_
  rintro e w1 ⟨rfl, hb1⟩
  have HB := Lib.hid (below_trans ((Below.refl _ w).alloc (Nat.le_refl _) _) hb1)
  clear hb1
  go_wp2_with fail
  refine (HPC.out _).mono ?_
  rintro e w2 ⟨rfl, hb2⟩
  replace HB := Lib.hid (below_trans HB.out hb2)
  clear hb2
  go_wp2_with fail
  refine (HC1.out _).mono ?_
  rintro e w3 ⟨v3, rfl, hf3⟩
  obtain ⟨a3, c3, rfl, _⟩ := row_of2 hf3
  replace HB := Lib.hid (below_trans HB.out hf3.bel)
  clear hf3
  go_wp2_with fail
  refine (HC2.out _).mono ?_
  rintro e w4 ⟨v4, rfl, hf4⟩
  obtain ⟨a4, c4, rfl, _⟩ := row_of2 hf4
  have C := ((Crew.start w3).block #[.int .u64 8, .int .i64 9, .int .i64 0, .slice a3 ([] : List SpI).length c3] 25).below hf4.bel
  have p0 : w4.cell? ⟨w3.heap.size, 0, none⟩ = some (.int .u64 8) := (C.at 0 rfl (j := 0) rfl).1
  have lb : w3.heap.size < w4.heap.size := C.lt 0 rfl
  replace HB := Lib.hid (below_trans (ba HB.out _) hf4.bel)
  clear hf4 C
  go_wp2_with fail
  go_ret
  exact ⟨rfl, ba HB.out _⟩

end Go.Proofs.Ytnknojkihjpjkaa
