/-
  What each file tells, gathered: whether it is well; its bytes. Conditions: as each theorem states them.
-/
import Derived.Test.YteellffkjjllgaaGreatG6
import Derived.Test.YteellffkjjllgaaGreatQDrText
namespace Go.Proofs.YteellffkjjllgaaGreat
open Go.RowKit Go.Rc5 Go.Rc7

set_option maxRecDepth 100000 in
set_option maxHeartbeats 4000000 in
theorem told_well (L : List Fl) (a : Option Addr) (n c : Nat) (w : World) (h : FilesAt w a L) (hl : L.length = n) (hn : n ≤ 1000) (hw : ∀ f ∈ L, FlOk f) :
    Calls Tryz.prog 36 #[.slice a n c, .func (.func 37) #[] #[]] w (BoolsBack (L.map wellB) n w) := by
  obtain ⟨i0, hi0, hz0, hz1, hz2⟩ := info_parts infoBl
  have HF := Lib.hid (fun W (hb : Below w.heap.size w W) => FilesAt.below h hb)
  have HL := Lib.hid hl
  have HW := Lib.hid hw
  clear hw
  clear h hl
  go_enter Tryz.func36, Tryz.ntmps36
  go_wp2_with (at_make; refine wpList_make_own _ rfl _ _ 67 rfl 0 4 i0 (.bool false) 1 Tryz.underlying67 hi0 hz0 hz1 .i64 .i64 _ n rfl rfl rfl (by rw [hz2]; omega) (by unfold maxLen; omega) (Nat.zero_le _) ?mk)
  case mk =>
    intro w1 ho hg
    have HC := Lib.hid ((Crew.start w).more (fresh_made ho hg))
    clear ho hg
    go_wp2
    go_loopw [5, 13] (fun v i wr => ∃ (k : Nat), i = .int .i64 k ∧ k ≤ n ∧ Crew (fun _ => False) w [rowT 0 4 1 v k ((L.map fun f => Value.bool (wellB f)).take k)] wr) (fun _ i _ => (n - intOf i).toNat)
    case atStart => exact ⟨0, rfl, Nat.zero_le _, HC.out⟩
    case round =>
      obtain ⟨k, rfl, hk, HR⟩ := hrel
      clear HC
      by_cases hlt : k < n
      · have hltI : (k : Int) < n := by omega
        obtain ⟨x, rfl, c0, c1, p, cp, c2, hs⟩ := HF.out wr HR.bel k (by rw [HL.out]; exact hlt)
        have HM := Lib.hid (take_map (fun f : Fl => Value.bool (wellB f)) L k default (by rw [HL.out]; exact hlt))
        have hmem : L.getD k default ∈ L := by
          have hkl : k < L.length := by rw [HL.out]; exact hlt
          rw [List.getD_eq_getElem?_getD, List.getElem?_eq_getElem hkl]
          exact List.getElem_mem hkl
        have HMM := Lib.hid hmem
        clear hmem
        generalize L.getD k default = f at *
        have hdb := (Below.refl wr.heap.size wr).alloc (Nat.le_refl _) (.cells #[.string f.name, .int .i64 f.size, .slice p f.spans.length cp] 40)
        have HD := Lib.hid (HR.block #[.string f.name, .int .i64 f.size, .slice p f.spans.length cp] 40)
        have HSP := Lib.hid (SpansAt.below hs hdb)
        have d0 := (HD.out.at 1 rfl (j := 0) rfl).1
        have d1 := (HD.out.at 1 rfl (j := 1) rfl).1
        have d2 := (HD.out.at 1 rfl (j := 2) rfl).1
        clear HR hs hdb
        go_wp2_with fail
        refine (well_any f (HW.out f HMM.out) p cp _ HSP.out).mono ?_
        rintro e w2 ⟨rfl, hb⟩
        have HE := Lib.hid ((HD.out.below hb).below ((Below.refl _ w2).alloc (Nat.le_refl _) (.cells #[Value.bool (wellB f)] 4)))
        clear HD d0 d1 d2 hb
        go_wp2_with (at_builtin; refine wpList_append_crew HE.out 0 rfl rfl (.tmp 17) (.tmp 21) 67 rfl (.bool false) 1 Tryz.underlying67 infoBl rfl (by decide) rfl ⟨w2.heap.size, 0, none⟩ 1 1 [Value.bool (wellB f)] rfl rfl (news_one w2 _ _) (by simp [Value.oneCell']) (by unfold maxLen; omega) (by omega) ?ap)
        case ap =>
          intro v' w3 hc
          have HG := Lib.hid (hc.pick [0] (by decide) rfl)
          clear hc HE
          go_wp2
          refine ⟨⟨k + 1, by go_num, by omega, ?_⟩, by simp [intOf]; omega⟩
          rw [← HM.out]
          exact HG.out
      · obtain rfl : k = n := by omega
        have hltI : ¬ (k : Int) < k := by omega
        obtain ⟨a', c', rfl⟩ := HR.slice 0 rfl
        have HB := Lib.hid HR.bel
        have HO := Lib.hid (HR.own 0 rfl)
        clear HR
        go_wp2
        go_ret
        refine ⟨a', c', rfl, ?_, HB.out⟩
        have ho := HO.out
        rw [List.take_of_length_le (by rw [List.length_map, HL.out]; exact Nat.le_refl _)] at ho
        refine (bools_own (B := L.map wellB) (base := 0) (e := 4) (n := k) (c := c') ?_).2
        rw [bools, List.map_map]
        exact ho

set_option maxRecDepth 100000 in
set_option maxHeartbeats 4000000 in
theorem told_text (L : List Fl) (a : Option Addr) (n c : Nat) (w : World) (h : FilesAt w a L) (hl : L.length = n) (hn : n ≤ 1000) (hw : ∀ f ∈ L, Well f) :
    Calls Tryz.prog 20 #[.slice a n c, .func (.func 21) #[] #[]] w (StrsBack (L.map fun f => ⟨(textT f).toArray⟩) n w) := by
  obtain ⟨i0, hi0, hz0, hz1, hz2⟩ := info_parts infoS
  have HF := Lib.hid (fun W (hb : Below w.heap.size w W) => FilesAt.below h hb)
  have HL := Lib.hid hl
  have HW := Lib.hid hw
  clear hw
  clear h hl
  go_enter Tryz.func20, Tryz.ntmps20
  go_wp2_with (at_make; refine wpList_make_own _ rfl _ _ 49 rfl 0 9 i0 (.string ⟨#[]⟩) 1 Tryz.underlying49 hi0 hz0 hz1 .i64 .i64 _ n rfl rfl rfl (by rw [hz2]; omega) (by unfold maxLen; omega) (Nat.zero_le _) ?mk)
  case mk =>
    intro w1 ho hg
    have HC := Lib.hid ((Crew.start w).more (fresh_made ho hg))
    clear ho hg
    go_wp2
    go_loopw [5, 13] (fun v i wr => ∃ (k : Nat), i = .int .i64 k ∧ k ≤ n ∧ Crew (fun _ => False) w [rowT 0 9 1 v k ((L.map fun f => Value.string ⟨(textT f).toArray⟩).take k)] wr) (fun _ i _ => (n - intOf i).toNat)
    case atStart => exact ⟨0, rfl, Nat.zero_le _, HC.out⟩
    case round =>
      obtain ⟨k, rfl, hk, HR⟩ := hrel
      clear HC
      by_cases hlt : k < n
      · have hltI : (k : Int) < n := by omega
        obtain ⟨x, rfl, c0, c1, p, cp, c2, hs⟩ := HF.out wr HR.bel k (by rw [HL.out]; exact hlt)
        have HM := Lib.hid (take_map (fun f : Fl => Value.string ⟨(textT f).toArray⟩) L k default (by rw [HL.out]; exact hlt))
        have hmem : L.getD k default ∈ L := by
          have hkl : k < L.length := by rw [HL.out]; exact hlt
          rw [List.getD_eq_getElem?_getD, List.getElem?_eq_getElem hkl]
          exact List.getElem_mem hkl
        have HMM := Lib.hid hmem
        clear hmem
        generalize L.getD k default = f at *
        have hdb := (Below.refl wr.heap.size wr).alloc (Nat.le_refl _) (.cells #[.string f.name, .int .i64 f.size, .slice p f.spans.length cp] 40)
        have HD := Lib.hid (HR.block #[.string f.name, .int .i64 f.size, .slice p f.spans.length cp] 40)
        have HSP := Lib.hid (SpansAt.below hs hdb)
        have d0 := (HD.out.at 1 rfl (j := 0) rfl).1
        have d1 := (HD.out.at 1 rfl (j := 1) rfl).1
        have d2 := (HD.out.at 1 rfl (j := 2) rfl).1
        clear HR hs hdb
        go_wp2_with fail
        refine (text_any f (HW.out f HMM.out) p cp _ HSP.out).mono ?_
        rintro e w2 ⟨rfl, hb⟩
        have HE := Lib.hid ((HD.out.below hb).below ((Below.refl _ w2).alloc (Nat.le_refl _) (.cells #[Value.string ⟨(textT f).toArray⟩] 9)))
        clear HD d0 d1 d2 hb
        go_wp2_with (at_builtin; refine wpList_append_crew HE.out 0 rfl rfl (.tmp 17) (.tmp 21) 49 rfl (.string ⟨#[]⟩) 16 Tryz.underlying49 infoS rfl (by decide) rfl ⟨w2.heap.size, 0, none⟩ 1 1 [Value.string ⟨(textT f).toArray⟩] rfl rfl (news_one w2 _ _) (by simp [Value.oneCell']) (by unfold maxLen; omega) (by omega) ?ap)
        case ap =>
          intro v' w3 hc
          have HG := Lib.hid (hc.pick [0] (by decide) rfl)
          clear hc HE
          go_wp2
          refine ⟨⟨k + 1, by go_num, by omega, ?_⟩, by simp [intOf]; omega⟩
          rw [← HM.out]
          exact HG.out
      · obtain rfl : k = n := by omega
        have hltI : ¬ (k : Int) < k := by omega
        obtain ⟨a', c', rfl⟩ := HR.slice 0 rfl
        have HB := Lib.hid HR.bel
        have HO := Lib.hid (HR.own 0 rfl)
        clear HR
        go_wp2
        go_ret
        refine ⟨a', c', rfl, ?_, HB.out, own_addr HO.out⟩
        have ho := HO.out
        rw [List.take_of_length_le (by rw [List.length_map, HL.out]; exact Nat.le_refl _)] at ho
        refine (strs_own (S := L.map fun f => ⟨(textT f).toArray⟩) (base := 0) (e := 9) (n := k) (c := c') ?_).2
        rw [List.map_map]
        exact ho

end Go.Proofs.YteellffkjjllgaaGreat
