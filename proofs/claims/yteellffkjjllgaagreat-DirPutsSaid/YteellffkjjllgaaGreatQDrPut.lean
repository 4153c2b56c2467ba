/-
  Whether a row of files is a directory, and its bytes, as the program tells them. Condition: the files' numbers are such as their fields may hold.
-/
import Derived.Test.YteellffkjjllgaaGreatQDrBs
namespace Go.Rc7
open Go.Rc5

theorem dir_iff (L : List Fl) : Dir L ↔ L.length ≤ 120 ∧ Rises (L.map (·.name)) ∧ ¬ false ∈ L.map wellB := by
  constructor
  · intro h
    refine ⟨h.many, h.rises, fun hm => ?_⟩
    obtain ⟨f, hf, he⟩ := List.mem_map.1 hm
    rw [(wellB_iff f).2 (h.well f hf)] at he
    cases he
  · rintro ⟨h1, h2, h3⟩
    refine ⟨h1, h2, fun f hf => (wellB_iff f).1 ?_⟩
    cases he : wellB f with
    | true => rfl
    | false => exact (h3 (List.mem_map.2 ⟨f, hf, he⟩)).elim

theorem body_parts (L : List Fl) : (⟨(Rc2.put 1 L.length).toArray⟩ : ByteArray) ++ ⟨((L.map fun f => (⟨(textT f).toArray⟩ : ByteArray)).map fun s => s.data.toList).flatten.toArray⟩ = ⟨(bodyT L).toArray⟩ := by
  apply ByteArray.ext
  rw [ByteArray.data_append]
  apply Array.ext'
  rw [Array.toList_append]
  simp only [bodyT, filesT, List.map_map]
  congr 1

end Go.Rc7
namespace Go.Proofs.YteellffkjjllgaaGreat
open Go.RowKit Go.Rc5 Go.Rc6 Go.Rc7

/-- A directory's bytes, with their sum. -/
def dirB (L : List Fl) : ByteArray := sealedB ⟨(bodyT L).toArray⟩

open Classical in
set_option maxRecDepth 100000 in
set_option maxHeartbeats 4000000 in
theorem directory_any (L : List Fl) (k : ∀ f ∈ L, FlOk f) (a : Option Addr) (n c : Nat) (w : World) (h : FilesAt w a L) (hl : L.length = n) :
    Calls Tryz.prog 16 #[.slice a n c] w fun e w' => e = .returned (.bool (decide (Dir L))) ∧ Below w.heap.size w w' := by
  by_cases h1 : n ≤ 120
  · have h1' : (n : Int) ≤ 120 := by omega
    have HT := Lib.hid (told_name L a n c w h hl (by omega))
    have HF := Lib.hid (fun W (hW : Below w.heap.size w W) => FilesAt.below h hW)
    have HL := Lib.hid hl
    have HK := Lib.hid k
    clear h hl k
    by_cases h2 : Rises (L.map (·.name))
    · have HR := Lib.hid h2
      clear h2
      go_enter Tryz.func16, Tryz.ntmps16
      go_wp2_with fail
      refine HT.out.mono ?_
      rintro e w1 ⟨a1, c1, rfl, hs1, hb1, _⟩
      have HB1 := Lib.hid hb1
      have hr := rising_any (L.map (·.name)) a1 n c1 w1 hs1 (by rw [List.length_map, HL.out]) (by omega)
      rw [decide_eq_true HR.out] at hr
      have HRI := Lib.hid hr
      clear hs1 hb1 hr HT
      go_wp2_with fail
      refine HRI.out.mono ?_
      rintro e w2 ⟨rfl, hb2⟩
      replace HB1 := Lib.hid (below_trans HB1.out hb2)
      have HW := Lib.hid (told_well L a n c w2 (HF.out _ HB1.out) HL.out (by omega) HK.out)
      clear hb2 HRI
      go_wp2_with fail
      refine HW.out.mono ?_
      rintro e w3 ⟨a3, c3, rfl, hs3, hb3⟩
      replace HB1 := Lib.hid (below_trans HB1.out hb3)
      have HC := Lib.hid (Contains_any (L.map wellB) a3 n c3 w3 hs3 (by rw [List.length_map, HL.out]) (by omega))
      clear hb3 hs3 HW
      go_wp2_with fail
      refine HC.out.mono ?_
      rintro e w4 ⟨rfl, rfl⟩
      have HD := Lib.hid (dir_iff L)
      by_cases hm : false ∈ L.map wellB
      · have HN : Hid (¬ Dir L) := fun h => ((dir_iff L).1 h).2.2 hm
        rw [decide_eq_true hm]
        clear hm HC HD
        go_wp2
        go_ret
        rw [decide_eq_false HN.out]
        exact ⟨rfl, HB1.out⟩
      · have HN : Hid (Dir L) := (dir_iff L).2 ⟨by rw [HL.out]; exact h1, HR.out, hm⟩
        rw [decide_eq_false hm]
        clear hm HC HD
        go_wp2
        go_ret
        rw [decide_eq_true HN.out]
        exact ⟨rfl, HB1.out⟩
    · have HR := Lib.hid h2
      clear h2
      go_enter Tryz.func16, Tryz.ntmps16
      go_wp2_with fail
      refine HT.out.mono ?_
      rintro e w1 ⟨a1, c1, rfl, hs1, hb1, _⟩
      have HB1 := Lib.hid hb1
      have hr := rising_any (L.map (·.name)) a1 n c1 w1 hs1 (by rw [List.length_map, HL.out]) (by omega)
      rw [decide_eq_false HR.out] at hr
      have HRI := Lib.hid hr
      clear hs1 hb1 hr HT
      go_wp2_with fail
      refine HRI.out.mono ?_
      rintro e w2 ⟨rfl, hb2⟩
      replace HB1 := Lib.hid (below_trans HB1.out hb2)
      have HN : Hid (¬ Dir L) := fun h => HR.out h.rises
      clear hb2 HRI
      go_wp2
      go_ret
      rw [decide_eq_false HN.out]
      exact ⟨rfl, HB1.out⟩
  · have h1' : ¬ (n : Int) ≤ 120 := by omega
    have HN : Hid (¬ Dir L) := fun h => h1 (hl ▸ h.many)
    rw [decide_eq_false HN.out]
    clear h hl k
    go_enter Tryz.func16, Tryz.ntmps16
    go_wp2
    go_ret
    exact ⟨rfl, Below.refl _ _⟩

open Classical in
set_option maxRecDepth 100000 in
set_option maxHeartbeats 4000000 in
theorem Put_no (L : List Fl) (k : ∀ f ∈ L, FlOk f) (a : Option Addr) (n c : Nat) (w : World) (h : FilesAt w a L) (hl : L.length = n) (hd : ¬ Dir L) :
    Calls Tryz.prog 7 #[.slice a n c] w fun e w' => e = .returned (.tuple #[.string ⟨#[]⟩, .int .i64 1]) ∧ Below w.heap.size w w' := by
  have hD := directory_any L k a n c w h hl
  rw [decide_eq_false hd] at hD
  have HD := Lib.hid hD
  clear h hl k hD hd
  go_enter Tryz.func7, Tryz.ntmps7
  go_wp2_with fail
  refine HD.out.mono ?_
  rintro e w1 ⟨rfl, hb⟩
  go_wp2
  go_ret2
  exact ⟨rfl, hb⟩

open Classical in
set_option maxRecDepth 100000 in
set_option maxHeartbeats 4000000 in
theorem Put_yes (L : List Fl) (a : Option Addr) (n c : Nat) (w : World) (h : FilesAt w a L) (hl : L.length = n) (hd : Dir L) :
    Calls Tryz.prog 7 #[.slice a n c] w fun e w' => e = .returned (.tuple #[.string (dirB L), .int .i64 0]) ∧ Below w.heap.size w w' := by
  have hD := directory_any L (well_dir hd) a n c w h hl
  rw [decide_eq_true hd] at hD
  have HD := Lib.hid hD
  have HF := Lib.hid (fun W (hW : Below w.heap.size w W) => FilesAt.below h hW)
  have HL := Lib.hid hl
  have hn : n ≤ 120 := by rw [← hl]; exact hd.many
  have u1 := wrap_nat (n := n) (by omega)
  have HP := Lib.hid (PutN 1 1 rfl (by decide) (by decide) n (by omega))
  have HW := Lib.hid hd.well
  have hbody := hd.body_le
  have hparts := body_parts L
  rw [hl] at hparts
  have hflat : ((L.map fun f => (⟨(textT f).toArray⟩ : ByteArray)).map fun s => s.data.toList).flatten.length ≤ 1000000 := by
    have h1 := hd.body_le
    unfold bodyT at h1
    rw [List.length_append] at h1
    simp only [List.map_map]
    have : (L.map ((fun s : ByteArray => s.data.toList) ∘ fun f => (⟨(textT f).toArray⟩ : ByteArray))).flatten = filesT L := rfl
    rw [this]
    omega
  have HJ := Lib.hid hflat
  have hbs : (ByteArray.mk (bodyT L).toArray).size ≤ 108241 := hbody
  have HSEAL := Lib.hid (fun W => Put_seal ⟨(bodyT L).toArray⟩ (by unfold maxLen; omega) W)
  have HDB : Hid (dirB L = sealedB ⟨(bodyT L).toArray⟩) := rfl
  generalize hPn : ByteArray.mk (Rc2.put 1 n).toArray = Pn at HP hparts
  have zn : Pn.size = 1 := by rw [← hPn]; exact size_put 1 n
  clear h hl hD hd hbody hflat hPn
  go_enter Tryz.func7, Tryz.ntmps7
  go_wp2_with fail
  refine HD.out.mono ?_
  rintro e w1 ⟨rfl, hb1⟩
  have HB := Lib.hid hb1
  clear hb1 HD
  go_wp2_with fail
  refine (HP.out _).mono ?_
  rintro e w2 ⟨rfl, hb2⟩
  replace HB := Lib.hid (below_trans HB.out hb2)
  have HT := Lib.hid (told_text L a n c w2 (HF.out _ HB.out) HL.out (by omega) HW.out)
  clear hb2 HP
  go_wp2_with fail
  refine HT.out.mono ?_
  rintro e w3 ⟨a3, c3, rfl, hs3, hb3, ha3⟩
  replace HB := Lib.hid (below_trans HB.out hb3)
  have HJN := Lib.hid (Join_any (L.map fun f => ⟨(textT f).toArray⟩) a3 n c3 w3 hs3 (by rw [List.length_map, HL.out]) ha3 (by omega) HJ.out)
  clear hs3 hb3 ha3 HT HJ
  generalize hQ : ByteArray.mk ((L.map fun f => (⟨(textT f).toArray⟩ : ByteArray)).map fun s => s.data.toList).flatten.toArray = Q at HJN hparts
  have hadd : (Pn.size : Int) + Q.size ≤ 9223372036854775807 := by
    have h := congrArg ByteArray.size hparts
    rw [ByteArray.size_append] at h
    omega
  have HPA := Lib.hid hparts
  clear hQ hparts
  go_wp2_with fail
  refine HJN.out.mono ?_
  rintro e w4 ⟨rfl, hb4⟩
  replace HB := Lib.hid (below_trans HB.out hb4)
  rw [← HPA.out] at HSEAL HDB
  clear hb4 HJN
  go_wp2_with fail
  refine (HSEAL.out _).mono ?_
  rintro e w5 ⟨rfl, hb5⟩
  replace HB := Lib.hid (below_trans HB.out hb5)
  clear hb5
  go_wp2
  go_ret2
  rw [HDB.out]
  exact ⟨rfl, HB.out⟩

end Go.Proofs.YteellffkjjllgaaGreat
