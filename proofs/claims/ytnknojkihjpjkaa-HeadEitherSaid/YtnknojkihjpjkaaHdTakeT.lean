/-
  What the document's Take answers, and that it is what the program's does. Conditions: as each theorem states them.
-/
import Derived.Test.YtnknojkihjpjkaaHdTakeS
namespace Go.Proofs.Ytnknojkihjpjkaa
open Go.RowKit Go.Rc5 Go.Rc6

theorem TakeH_form (t : ByteArray) (ht : t.size = 60) (hno : ¬ ∃ h : Hd, h.Ok ∧ hdB h = sealedB t) (w : World) :
    Calls Try.prog 17 #[.string (sealedB t)] w fun e w' => e = .returned (.tuple #[.agg #[.int .u64 0, .int .i64 0, .int .i64 0, .slice none 0 0], .int .i64 2]) ∧ Below w.heap.size w w' := by
  by_cases h8 : 8 < many t.data.toList
  · exact TakeH_many t ht h8 w
  · have b1 := say_cut_lt t.data.toList 4 8
    have b3 := say_cut_lt t.data.toList 14 4
    by_cases hg : HdGood (Rc2.say (cut t.data.toList 4 8)) (Rc2.say (cut t.data.toList 12 2) : Nat) (Rc2.say (cut t.data.toList 14 4) : Nat) (castS (readSpans t.data.toList (many t.data.toList)))
    · obtain ⟨h, k, i⟩ := hg
      have hl : h.spans.length = many t.data.toList := by
        have := congrArg List.length i.spans
        rw [castS_length, castS_length, readSpans_length] at this
        exact this.symm
      have hput : ∀ W a c, SpansAt W a (castS (readSpans t.data.toList (many t.data.toList))) → Calls Try.prog 11 #[.agg #[.int .u64 (Rc2.say (cut t.data.toList 4 8) : Nat), .int .i64 (Rc2.say (cut t.data.toList 12 2) : Nat), .int .i64 (Rc2.say (cut t.data.toList 14 4) : Nat), .slice a (many t.data.toList) c]] W fun e w' => e = .returned (.tuple #[.string (hdB h), .int .i64 0]) ∧ Below W.heap.size W w' := fun W a c hS => by
        have := PutR_yes h k a c (many t.data.toList) W (by rw [← i.spans]; exact hS) hl
        rw [← i.gen, ← i.sectors, ← i.size] at this
        exact this
      exact takeH_core t ht _ rfl (by omega) _ _ _ rfl rfl rfl (hdB h) _ rfl 0 false (.inr (.inl ⟨rfl, rfl, fun e => hno ⟨h, k, e⟩⟩)) hput w
    · exact takeH_core t ht _ rfl (by omega) _ _ _ rfl rfl rfl ⟨#[]⟩ _ rfl 1 false (.inr (.inr ⟨rfl, rfl⟩)) (fun W a c hS => PutR_no _ (by omega) _ _ (by omega) a c _ _ W hS (by rw [castS_length, readSpans_length]) hg) w

theorem TakeH_yes (h : Hd) (k : h.Ok) (w : World) : Calls Try.prog 17 #[.string (hdB h)] w (HeadAt h w) := by
  have ht : (ByteArray.mk (text h).toArray).size = 60 := by
    show (text h).toArray.size = 60
    rw [List.size_toArray, text_length h k.few]
  obtain ⟨hu, hm⟩ := unhead_text k
  have hr : readSpans (text h) h.spans.length = h.spans := by
    have := congrArg Hd.spans hu
    simp only [unhead] at this
    rw [hm] at this
    exact this
  have hg : Rc2.say (cut (text h) 4 8) = h.gen := congrArg Hd.gen hu
  have hs : Rc2.say (cut (text h) 12 2) = h.sectors := congrArg Hd.sectors hu
  have hz : Rc2.say (cut (text h) 14 4) = h.size := congrArg Hd.size hu
  have hput : ∀ W a c, SpansAt W a (castS (readSpans (text h) h.spans.length)) → Calls Try.prog 11 #[.agg #[.int .u64 (h.gen : Int), .int .i64 (h.sectors : Int), .int .i64 (h.size : Int), .slice a h.spans.length c]] W fun e w' => e = .returned (.tuple #[.string (hdB h), .int .i64 0]) ∧ Below W.heap.size W w' := fun W a c hS =>
    PutR_yes h k a c h.spans.length W (by rw [hr] at hS; exact hS) rfl
  refine (takeH_core ⟨(text h).toArray⟩ ht h.spans.length hm k.few h.gen h.sectors h.size hg hs hz (hdB h) (hdB h) rfl 0 true (.inl ⟨rfl, rfl, rfl⟩) hput w).mono ?_
  rintro e w' ⟨v, he, hf⟩
  have e2 : readSpans (ByteArray.mk (text h).toArray).data.toList h.spans.length = h.spans := hr
  rw [e2] at hf
  exact ⟨v, he, hf⟩

theorem TakeH_no (s : ByteArray) (hno : ¬ ∃ h : Hd, h.Ok ∧ hdB h = s) (w : World) :
    Calls Try.prog 17 #[.string s] w fun e w' => e = .returned (.tuple #[.agg #[.int .u64 0, .int .i64 0, .int .i64 0, .slice none 0 0], .int .i64 (takeErr s)]) ∧ Below w.heap.size w w' := by
  unfold takeErr
  by_cases h1 : s.size ≠ 64
  · rw [if_pos h1]
    exact TakeH_len s h1 w
  · rw [if_neg h1]
    have h64 : s.size = 64 := by omega
    by_cases h2 : sealedB (ahead s) ≠ s
    · rw [if_pos h2]
      exact TakeH_sum s h64 h2 w
    · rw [if_neg h2]
      have e : sealedB (ahead s) = s := by
        by_cases e : sealedB (ahead s) = s
        · exact e
        · exact absurd e h2
      have hz : (ahead s).size = 60 := by
        have := sealed_size (ahead s)
        rw [e] at this
        omega
      have := TakeH_form (ahead s) hz (by rw [e]; exact hno) w
      rw [e] at this
      exact this

end Go.Proofs.Ytnknojkihjpjkaa
