/-
  A directory's bytes, as the document has them. Conditions: as each theorem states them.
-/
import Derived.Test.YteellffkjjllgaaGreatQDrIs
namespace Go.Rc7
open Go.Rc5 Go.Rc6

theorem files_take_snoc {L : List Fl} {k : Nat} (h : k < L.length) : filesT (L.take (k + 1)) = filesT (L.take k) ++ textT (L.getD k default) := by
  rw [take_snoc L k default h, filesT_snoc]

theorem files_take_le {L : List Fl} (h : ∀ f ∈ L, Well f) (k : Nat) : (filesT (L.take k)).length ≤ 902 * L.length := by
  have h1 := filesT_le (L := L.take k) (fun f hf => h f (List.mem_of_mem_take hf))
  have : (L.take k).length ≤ L.length := (by rw [List.length_take]; omega)
  omega

end Go.Rc7
namespace Go.Proofs.YteellffkjjllgaaGreat
open Go.RowKit Go.Rc5 Go.Rc6 Go.Rc7

theorem PutRN (m : Int) (q : Nat) (hm : m = (q : Int)) (hq : 1 ≤ q) (hq8 : q ≤ 8) (n : Nat) (hn : n < 18446744073709551616) (w : World) :
    Calls Tryz.prog 23 #[.int .u64 (n : Int), .int .i64 m] w fun e w' => e = .returned (.string ⟨(Rc2.put q n).toArray⟩) ∧ Below w.heap.size w w' :=
  PutR_core n hn m q (by omega) w

open Classical in
set_option maxRecDepth 100000 in
set_option maxHeartbeats 4000000 in
theorem PutD_no (L : List Fl) (a : Option Addr) (n c : Nat) (w : World) (h : FilesAt w a L) (hl : L.length = n) (hn : n ≤ 1000) (hs : ∀ f ∈ L, f.name.size ≤ 140737488355328 ∧ f.spans.length ≤ 100000) (hd : ¬ Dir L) :
    Calls Tryz.prog 8 #[.slice a n c] w fun e w' => e = .returned (.tuple #[.string ⟨#[]⟩, .int .i64 1]) ∧ Below w.heap.size w w' := by
  have hD := Is_any L a n c w h hl hn hs
  rw [decide_eq_false hd] at hD
  have HD := Lib.hid hD
  clear h hl hs hD hd
  go_enter Tryz.func8, Tryz.ntmps8
  go_wp2_with fail
  refine HD.out.mono ?_
  rintro e w1 ⟨rfl, hb⟩
  go_wp2
  go_ret2
  exact ⟨rfl, hb⟩

open Classical in
set_option maxRecDepth 100000 in
set_option maxHeartbeats 16000000 in
theorem PutD_yes (L : List Fl) (a : Option Addr) (n c : Nat) (w : World) (h : FilesAt w a L) (hl : L.length = n) (hd : Dir L) :
    Calls Tryz.prog 8 #[.slice a n c] w fun e w' => e = .returned (.tuple #[.string (dirB L), .int .i64 0]) ∧ Below w.heap.size w w' := by
  have hn : n ≤ 120 := by rw [← hl]; exact hd.many
  have hD := Is_any L a n c w h hl (by omega) (fun f hf => by have h1 := (hd.well f hf).name_le; have h2 := (hd.well f hf).many; omega)
  rw [decide_eq_true hd] at hD
  have HD := Lib.hid hD
  have HF := Lib.hid (fun W (hW : Below w.heap.size w W) => FilesAt.below h hW)
  have HL := Lib.hid hl
  have u1 := wrap_nat (n := n) (by omega)
  have HPn := Lib.hid (PutRN 1 1 rfl (by decide) (by decide) n (by omega))
  have HW := Lib.hid hd.well
  have HLE := Lib.hid (fun k => files_take_le hd.well k)
  have HBZ := Lib.hid hd.body_le
  have HSEAL := Lib.hid (fun (S : ByteArray) (hS : S.size ≤ 200000) W => PutR_seal S (by unfold maxLen; omega) W)
  have HDB : Hid (∀ S : ByteArray, S.data.toList = bodyT L → sealedB S = dirB L) := fun S hS => by
    have : S = ⟨(bodyT L).toArray⟩ := by
      apply ext_list
      rw [hS]
    rw [this]
    rfl
  have HBT : Hid (bodyT L = Rc2.put 1 n ++ filesT L) := by unfold Hid; rw [bodyT, hl]
  have zn := size_put 1 n
  generalize hPn : ByteArray.mk (Rc2.put 1 n).toArray = Pn at HPn zn
  have HQn : Hid (Rc2.put 1 n = Pn.data.toList) := by rw [← hPn]; exact rfl
  clear h hl hD hd hPn
  go_enter Tryz.func8, Tryz.ntmps8
  go_wp2_with fail
  refine HD.out.mono ?_
  rintro e w1 ⟨rfl, hb1⟩
  have HB := Lib.hid hb1
  clear hb1 HD
  go_wp2_with fail
  refine (HPn.out _).mono ?_
  rintro e w2 ⟨rfl, hb2⟩
  replace HB := Lib.hid (below_trans HB.out hb2)
  clear hb2 HPn
  go_wp2_with fail
  go_loopw [5, 6] (fun s i wr => ∃ (k : Nat) (S : ByteArray), i = .int .i64 k ∧ s = .string S ∧ k ≤ n ∧ Hid (S.data.toList = Rc2.put 1 n ++ filesT (L.take k)) ∧ Hid (Below w.heap.size w wr)) (fun _ i _ => (n - intOf i).toNat)
  case atStart => exact ⟨0, Pn, rfl, rfl, Nat.zero_le _, by unfold Hid; rw [HQn.out]; simp [filesT], HB.out⟩
  case round =>
    obtain ⟨k, S, rfl, rfl, hk, hS, HB2⟩ := hrel
    have hSz : S.size ≤ 200000 := by
      rw [size_list, hS.out, List.length_append, Rc2.put_length]
      have := HLE.out k
      have := HL.out
      omega
    by_cases hlt : k < n
    · have hltI : (k : Int) < n := by omega
      have hkl : k < L.length := by rw [HL.out]; exact hlt
      obtain ⟨x, rfl, c0, c1, p, cp, c2, hsp⟩ := HF.out wr HB2.out k hkl
      have HT := Lib.hid (files_take_snoc hkl)
      have hwf := HW.out _ (getD_mem (d := default) hkl)
      generalize L.getD k default = f at *
      obtain ⟨N, hN, _, hs, _⟩ := hwf.row
      have h96 := hwf.name_le
      have hlo := hwf.lo
      have hhi := hwf.hi
      have hmany := hwf.many
      have HSF := Lib.hid (fun W (hW : Below wr.heap.size wr W) => SpansAt.below hsp hW)
      have HTX : Hid (textT f = (((Rc2.put 1 f.name.size ++ f.name.data.toList) ++ Rc2.put 4 f.size.toNat) ++ Rc2.put 1 f.spans.length) ++ spansT f.spans) := by
        unfold Hid textT headT
        simp only [List.append_assoc]
      obtain ⟨nm, z0, Sp⟩ := f
      dsimp only at *
      subst hN
      obtain ⟨z, rfl⟩ : ∃ z : Nat, z0 = (z : Int) := ⟨z0.toNat, by omega⟩
      rw [Int.toNat_natCast] at HTX
      obtain ⟨len, hlen⟩ : ∃ len, (castS N).length = len := ⟨_, rfl⟩
      rw [hlen] at HTX c2 hmany
      have hNl : N.length = len := by rw [← hlen, castS_length]
      have HNL := Lib.hid hNl
      have HFIT := Lib.hid (fun x hx => (hs x hx).2)
      have u2 := wrap_nat (n := nm.size) (by omega)
      have u3 := wrap_nat (n := z) (by omega)
      have u4 := wrap_nat (n := len) (by omega)
      have z0' := size_put 1 nm.size
      have z4 := size_put 4 z
      have z1 := size_put 1 len
      have HP0 := Lib.hid (PutRN 1 1 rfl (by decide) (by decide) nm.size (by omega))
      have HP4 := Lib.hid (PutRN 4 4 rfl (by decide) (by decide) z (by omega))
      have HP1 := Lib.hid (PutRN 1 1 rfl (by decide) (by decide) len (by omega))
      have HPS := Lib.hid (fun (n : Nat) (hn : n < 65536) => PutRN 2 2 rfl (by decide) (by decide) n (by omega))
      generalize hP0 : ByteArray.mk (Rc2.put 1 nm.size).toArray = P0 at HP0 z0'
      generalize hP4 : ByteArray.mk (Rc2.put 4 z).toArray = P4 at HP4 z4
      generalize hP1 : ByteArray.mk (Rc2.put 1 len).toArray = P1 at HP1 z1
      have HQ : Hid (Rc2.put 1 nm.size = P0.data.toList ∧ Rc2.put 4 z = P4.data.toList ∧ Rc2.put 1 len = P1.data.toList) := by
        rw [← hP0, ← hP4, ← hP1]
        exact ⟨rfl, rfl, rfl⟩
      have HC := Lib.hid ((Crew.start wr).block #[.string nm, .int .i64 (z : Int), .slice p len cp] 44)
      have d0 := fun q => after_cell (HC.out.at 0 rfl (j := 0) rfl).1 (HC.out.lt 0 rfl) q
      have d1 := fun q => after_cell (HC.out.at 0 rfl (j := 1) rfl).1 (HC.out.lt 0 rfl) q
      have d2 := fun q => after_cell (HC.out.at 0 rfl (j := 2) rfl).1 (HC.out.lt 0 rfl) q
      clear hP0 hP4 hP1 hs hwf hsp hlen hNl hkl hlo
      go_wp2
      refine wp_region_after (by kernel_rfl) (by kernel_rfl) ?_
      repeat (go_big_quiet_step (first | with_reducible exact after_call HP0.out _ | with_reducible exact after_call HP4.out _ | with_reducible exact after_call HP1.out _))
      refine wpQuiet_nil ?_
      intro _ hw
      obtain ⟨q, rfl⟩ := hw
      have HC1 := Lib.hid (HC.out.below q.is)
      generalize q.to = wp at *
      obtain ⟨S0, hS0⟩ : ∃ S0, S ++ P0 ++ nm ++ P4 ++ P1 = S0 := ⟨_, rfl⟩
      rw [hS0]
      have H0 : Hid (S0.data.toList = Rc2.put 1 n ++ filesT (L.take k) ++ (((Rc2.put 1 nm.size ++ nm.data.toList) ++ Rc2.put 4 z) ++ Rc2.put 1 len) ++ spansT (castS (N.take 0))) := by
        unfold Hid
        rw [← hS0, HQ.out.1, HQ.out.2.1, HQ.out.2.2, List.take_zero]
        simp only [list_append, hS.out, List.append_assoc]
        show _ = _ ++ (_ ++ (_ ++ (_ ++ (_ ++ (_ ++ [])))))
        rw [List.append_nil]
      have HZ0 : Hid (S0.size ≤ 200200) := by
        unfold Hid
        rw [← hS0]
        simp only [ByteArray.size_append]
        omega
      have HB3 := Lib.hid (below_trans HB2.out HC1.out.bel)
      clear d0 d1 d2 HP0 HP4 HP1 HQ z0' z4 z1 u2 u3 hS0 HC hS hSz c0 c1 c2
      have c2 := (HC1.out.at 0 rfl (j := 2) rfl).1
      go_wp2
      go_loopw [5, 8] (fun s i W => ∃ (j : Nat) (T : ByteArray), i = .int .i64 j ∧ s = .string T ∧ j ≤ len ∧ T.size ≤ 200200 + 4 * j ∧ Hid (T.data.toList = Rc2.put 1 n ++ filesT (L.take k) ++ (((Rc2.put 1 nm.size ++ nm.data.toList) ++ Rc2.put 4 z) ++ Rc2.put 1 len) ++ spansT (castS (N.take j))) ∧ Hid (Crew (fun _ => False) wr [blkT wr.heap.size #[.string nm, .int .i64 (z : Int), .slice p len cp] 44] W)) (fun _ i _ => (len - intOf i).toNat)
      case atStart => exact ⟨0, S0, rfl, rfl, Nat.zero_le _, by have := HZ0.out; omega, H0, HC1.out⟩
      case round =>
        obtain ⟨j, T, rfl, rfl, hj, hTz, hT, HCj⟩ := hrel
        clear c2
        have c2 := (HCj.out.at 0 rfl (j := 2) rfl).1
        by_cases hlj : j < len
        · have hljI : (j : Int) < len := by omega
          have e2 := fun q => after_cell c2 (row_block c2) q
          obtain ⟨y, rfl, d0, d1⟩ := HSF.out _ HCj.out.bel j (by rw [castS_length, HNL.out]; exact hlj)
          have HTT := Lib.hid (spansT_take (N := N) (k := j) (by rw [HNL.out]; exact hlj))
          have hfit := HFIT.out (N.getD j (0, 0)) (getD_mem (by rw [HNL.out]; exact hlj))
          rw [castS_at] at d0 d1
          dsimp only at d0 d1
          generalize hsp : N.getD j (0, 0) = sp at *
          obtain ⟨s1, s2⟩ := sp
          dsimp only at d0 d1 HTT hfit
          clear hsp
          have f0 := fun q => after_cell d0 (row_block d0) q
          have f1 := fun q => after_cell d1 (row_block d1) q
          have u5 := wrap_nat (n := s1) (by omega)
          have u6 := wrap_nat (n := s2) (by omega)
          have y1 := size_put 2 s1
          have y2 := size_put 2 s2
          have HQ1 := Lib.hid (HPS.out s1 (by omega))
          have HQ2 := Lib.hid (HPS.out s2 (by omega))
          generalize hP1 : ByteArray.mk (Rc2.put 2 s1).toArray = Q1 at HQ1 y1
          generalize hP2 : ByteArray.mk (Rc2.put 2 s2).toArray = Q2 at HQ2 y2
          have HQ : Hid (Rc2.put 2 s1 = Q1.data.toList ∧ Rc2.put 2 s2 = Q2.data.toList) := by
            rw [← hP1, ← hP2]
            exact ⟨rfl, rfl⟩
          clear hP1 hP2 hfit d0 d1
          go_wp2
          refine wp_region_after (by kernel_rfl) (by kernel_rfl) ?_
          repeat (go_big_quiet_step (first | with_reducible exact after_call HQ1.out _ | with_reducible exact after_call HQ2.out _))
          refine wpQuiet_nil ?_
          intro _ hw
          obtain ⟨q, rfl⟩ := hw
          have HC4 := Lib.hid (HCj.out.below q.is)
          generalize q.to = wq at *
          obtain ⟨T', hT'⟩ : ∃ T', T ++ Q1 ++ Q2 = T' := ⟨_, rfl⟩
          rw [hT']
          have H1 : Hid (T'.data.toList = Rc2.put 1 n ++ filesT (L.take k) ++ (((Rc2.put 1 nm.size ++ nm.data.toList) ++ Rc2.put 4 z) ++ Rc2.put 1 len) ++ spansT (castS (N.take (j + 1)))) := by
            unfold Hid
            rw [HTT.out, HQ.out.1, HQ.out.2, ← hT', list_append, list_append, hT.out]
            simp only [List.append_assoc]
          have hz' : T'.size ≤ 200200 + 4 * (j + 1) := by
            rw [← hT']
            simp only [ByteArray.size_append]
            omega
          clear hT' f0 f1 c2 e2 hT HQ
          go_wp2
          exact ⟨⟨j + 1, T', by go_num, rfl, by omega, hz', H1, HC4.out⟩, by simp [intOf]; omega⟩
        · obtain rfl : j = len := by omega
          have hljI : ¬ (j : Int) < j := by omega
          have H2 : Hid (T.data.toList = Rc2.put 1 n ++ filesT (L.take (k + 1))) := by
            have h1 := hT.out
            rw [List.take_of_length_le (Nat.le_of_eq HNL.out)] at h1
            unfold Hid
            rw [h1, HT.out, HTX.out]
            simp only [List.append_assoc]
          have HB4 := Lib.hid (below_trans HB2.out HCj.out.bel)
          clear hT
          go_wp2
          exact ⟨⟨k + 1, T, by go_num, rfl, by omega, H2, HB4⟩, by simp [intOf]; omega⟩
    · obtain rfl : k = n := by omega
      have hltI : ¬ (k : Int) < k := by omega
      have HST := Lib.hid (HSEAL.out S hSz)
      have hSL : S.data.toList = bodyT L := by
        have h1 := hS.out
        rw [List.take_of_length_le (Nat.le_of_eq HL.out)] at h1
        rw [h1, HBT.out]
      have HR := Lib.hid (HDB.out S hSL)
      clear hS hSL
      go_wp2_with fail
      refine (HST.out _).mono ?_
      rintro e w5 ⟨rfl, hb5⟩
      go_wp2
      go_ret2
      rw [← HR.out]
      exact ⟨rfl, below_trans HB2.out hb5⟩

end Go.Proofs.YteellffkjjllgaaGreat
