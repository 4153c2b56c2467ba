/-
  What the program's Take answers of a sealed text: the head that it says, or that it is none. Conditions: as each theorem states them.
-/
import Derived.Test.YtnknojkihjpjkaaHdTakeB
namespace Go.Proofs.Ytnknojkihjpjkaa
open Go.RowKit Go.Rc5 Go.Rc6

theorem hdB_size (h : Hd) (k : h.Ok) : (hdB h).size = 64 := by
  unfold hdB
  rw [sealed_size]
  show (text h).toArray.size + 4 = 64
  rw [List.size_toArray, text_length h k.few]

theorem empty_ne {s : ByteArray} (h : s.size = 64) : (⟨#[]⟩ : ByteArray) ≠ s := by
  intro e
  rw [← e] at h
  exact absurd h (by decide)

theorem Take_form (t : ByteArray) (ht : t.size = 60) (hno : ¬ ∃ h : Hd, h.Ok ∧ hdB h = sealedB t) (w : World) :
    Calls Try.prog 16 #[.string (sealedB t)] w fun e w' => e = .returned (.tuple #[.agg #[.int .u64 0, .int .i64 0, .int .i64 0, .slice none 0 0], .int .i64 2]) ∧ Below w.heap.size w w' := by
  refine take_door t ht w _ ?_
  rintro W ⟨a, c, M, hM1, hM2, hM3, C⟩ tmps h2 h3
  have hS := (spans_own (C.own 3 rfl)).2
  have b1 := say_cut_lt t.data.toList 4 8
  have b3 := say_cut_lt t.data.toList 14 4
  have hP : ∃ (P : ByteArray) (x : Int), P ≠ sealedB t ∧ Calls Try.prog 10 #[.agg #[.int .u64 (Rc2.say (cut t.data.toList 4 8) : Nat), .int .i64 (Rc2.say (cut t.data.toList 12 2) : Nat), .int .i64 (Rc2.say (cut t.data.toList 14 4) : Nat), .slice a M.length c]] W fun e w' => e = .returned (.tuple #[.string P, .int .i64 x]) ∧ Below W.heap.size W w' := by
    by_cases hg : HdGood (Rc2.say (cut t.data.toList 4 8)) (Rc2.say (cut t.data.toList 12 2) : Nat) (Rc2.say (cut t.data.toList 14 4) : Nat) M
    · obtain ⟨h, k, i⟩ := hg
      refine ⟨hdB h, 0, fun e => hno ⟨h, k, e⟩, ?_⟩
      have hl : h.spans.length = M.length := by rw [i.spans, castS_length]
      have := Put_yes h k a c M.length W (by rw [← i.spans]; exact hS) hl
      rw [← i.gen, ← i.sectors, ← i.size] at this
      exact this
    · refine ⟨⟨#[]⟩, 1, empty_ne (by rw [sealed_size, ht]), ?_⟩
      exact Put_no _ (by omega) _ _ (by omega) a c M.length M W hS rfl hM2 hg
  obtain ⟨P, x, hne, hput⟩ := hP
  refine (late_other C 1 0 2 rfl rfl rfl (by decide) hne hput).mono ?_
  rintro e u' w' ⟨rfl, rfl, hC⟩
  obtain ⟨O, ⟨hblk, _⟩, _⟩ := hC.one (i := 1) rfl
  exact ⟨_, zero_head hblk _ 2 3 rfl tmps (w.heap.size + 1 + 1) 2 h2 h3 (hC.at 2 rfl (j := 0) rfl).1, rfl, hC.bel⟩

/-- A head is handed back: its numbers, and a row of the call's own. -/
def HeadAt (h : Hd) (w : World) (e : Ending) (w' : World) : Prop :=
  ∃ v : Value, e = .returned (.tuple #[.agg #[.int .u64 (h.gen : Int), .int .i64 (h.sectors : Int), .int .i64 (h.size : Int), v], .int .i64 0]) ∧ Fresh (spT v (castS h.spans)) w w'

theorem Take_yes (h : Hd) (k : h.Ok) (w : World) : Calls Try.prog 16 #[.string (hdB h)] w (HeadAt h w) := by
  have ht : (ByteArray.mk (text h).toArray).size = 60 := by
    show (text h).toArray.size = 60
    rw [List.size_toArray, text_length h k.few]
  have hl : (ByteArray.mk (text h).toArray).data.toList = text h := rfl
  refine take_door ⟨(text h).toArray⟩ ht w _ ?_
  rintro W ⟨a, c, M, hM1, hM2, hM3, C⟩ tmps h2 h3
  rw [hl] at hM1 hM3 C
  obtain ⟨hu, hm⟩ := unhead_text k
  have f := k.few
  rw [hm] at hM1 hM3
  have hM := hM3 f
  have hr : readSpans (text h) h.spans.length = h.spans := by
    have := congrArg Hd.spans hu
    simp only [unhead] at this
    rw [hm] at this
    exact this
  have hg : Rc2.say (cut (text h) 4 8) = h.gen := congrArg Hd.gen hu
  have hs : Rc2.say (cut (text h) 12 2) = h.sectors := congrArg Hd.sectors hu
  have hz : Rc2.say (cut (text h) 14 4) = h.size := congrArg Hd.size hu
  rw [hr] at hM
  subst hM
  rw [hg, hs, hz, hM1] at C
  have hS := (spans_own (C.own 3 (n := h.spans.length) (by show some (rowT 0 53 2 _ (castS h.spans).length _) = _; rw [castS_length]))).2
  refine (late_same C 1 0 rfl rfl (Put_yes h k a c h.spans.length W hS rfl)).mono ?_
  rintro e u' w' ⟨rfl, rfl, hb⟩
  have C2 := C.below hb
  obtain ⟨O, ⟨hblk, _⟩, _⟩ := C2.one (i := 1) rfl
  exact ⟨_, results_row_cell rfl tmps w' (w.heap.size + 1) 25 _ (0, 0) _ h2 hblk Try.underlying25 rfl (by kernel_rfl) ⟨w.heap.size + 1 + 1, 0, none⟩ _ h3 Try.isAgg27 (C2.at 2 rfl (j := 0) rfl).1, _, rfl, (C2.pick [3] (by decide) rfl).fresh⟩

/-- The texts that are no head's: which error. -/
def takeErr (s : ByteArray) : Int := open Classical in if s.size ≠ 64 then 1 else if sealedB (ahead s) ≠ s then 9 else 2

theorem Take_no (s : ByteArray) (hno : ¬ ∃ h : Hd, h.Ok ∧ hdB h = s) (w : World) :
    Calls Try.prog 16 #[.string s] w fun e w' => e = .returned (.tuple #[.agg #[.int .u64 0, .int .i64 0, .int .i64 0, .slice none 0 0], .int .i64 (takeErr s)]) ∧ Below w.heap.size w w' := by
  unfold takeErr
  by_cases h1 : s.size ≠ 64
  · rw [if_pos h1]
    exact Take_len s h1 w
  · rw [if_neg h1]
    have h64 : s.size = 64 := by omega
    by_cases h2 : sealedB (ahead s) ≠ s
    · rw [if_pos h2]
      exact Take_sum s h64 h2 w
    · rw [if_neg h2]
      have e : sealedB (ahead s) = s := by
        by_cases e : sealedB (ahead s) = s
        · exact e
        · exact absurd e h2
      have hz : (ahead s).size = 60 := by
        have := sealed_size (ahead s)
        rw [e] at this
        omega
      have := Take_form (ahead s) hz (by rw [e]; exact hno) w
      rw [e] at this
      exact this

end Go.Proofs.Ytnknojkihjpjkaa
