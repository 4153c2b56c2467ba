/-
  The reference of layer 5: what Take answers of a row that is right. Conditions: as each theorem states them.
-/
import Derived.Test.YtcknpmlekpgafaaSpRight
namespace Go.Proofs.Ytcknpmlekpgafaa
open Go.RowKit Go.Rc5

set_option maxHeartbeats 2000000 in
theorem rtake_no (N : List Sp) (a : Option Addr) (c len : Nat) (m : Int) (w : World) (h : SpansAt w a (castS N)) (hl : N.length = len) (hlen : len ≤ 100000) (hm : ∀ s ∈ N, s.2 ≤ 8192) (hn : m < 0 ∨ (total N : Int) < m) :
    Calls Try.prog 22 #[.slice a len c, .int .i64 m] w fun e w' => e = .returned (.tuple #[.slice none 0 0, .slice none 0 0, .bool false]) ∧ w = w' := by
  have HT := Lib.hid (rtotal_any N a c len w h hl hlen hm)
  clear h hl hm
  by_cases h0 : m < 0
  · clear hn
    go_enter Try.func22, Try.ntmps22
    go_wp2
    go_ret3
    exact ⟨rfl, rfl⟩
  · have h1 : (total N : Int) < m := hn.resolve_left h0
    clear hn
    generalize total N = T at *
    go_enter Try.func22, Try.ntmps22
    go_wp2_with (first | (go_at_call 18; (with_reducible refine HT.out.mono ?_); rintro e w3 ⟨rfl, rfl⟩))
    go_ret3
    exact ⟨rfl, rfl⟩

/-- What Take answers: two rows. -/
def TakeAt (A B : List SpI) (w : World) (e : Ending) (w' : World) : Prop :=
  ∃ v1 v2, e = .returned (.tuple #[v1, v2, .bool true]) ∧ Crew (fun _ => False) w [spT v1 A, spT v2 B] w'

set_option maxRecDepth 100000 in
set_option maxHeartbeats 8000000 in
theorem rtake_yes (N : List Sp) (a : Option Addr) (c len n : Nat) (w : World) (h : SpansAt w a (castS N)) (hl : N.length = len) (hlen : len ≤ 100000) (hch : Ch 0 N) (hm : ∀ s ∈ N, s.1 + s.2 ≤ 8192) (hn : n ≤ total N) :
    Calls Try.prog 22 #[.slice a len c, .int .i64 n] w (TakeAt (castS (rows (oneB N n) 8192)) (castS (rows (twoB N n) 8192)) w) := by
  have HT := Lib.hid (rtotal_any N a c len w h hl hlen (fun s hs => by have := hm s hs; omega))
  have HS := Lib.hid (fun W (hb : Below w.heap.size w W) => SpansAt.below h hb)
  have HL := Lib.hid hl
  have HCH := Lib.hid hch
  have HFIT : Hid (∀ k, k < len → (N.getD k (0, 0)).1 + (N.getD k (0, 0)).2 ≤ 8192) := fun k hk => by
    have hmm : N.getD k (0, 0) ∈ N := by
      rw [List.getD_eq_getElem?_getD, List.getElem?_eq_getElem (by omega)]
      exact List.getElem_mem _
    exact hm _ hmm
  have hnI : decide (total N < n) = false := decide_eq_false (by omega)
  have hnI2 : decide ((n : Int) < 0) = false := decide_eq_false (by omega)
  have hn0 : n ≤ 1000000000 := by
    have := total_bound N (fun s hs => by have := hm s hs; omega)
    omega
  clear h hl hm hch hn
  have hmk : ∀ W, (Instr.makeSlice 41 (.int .i64 8192) (.int .i64 8192)).run Try.prog W = .ok (.slice (some ⟨W.heap.size, 0, none⟩) 8192 8192) (W.alloc (.cells (List.replicate 8192 (.bool false)).toArray 4)) := fun W => make_own (t := 41) (e := 4) (z := .bool false) (bytes := 1) Try.underlying41 (by kernel_rfl) rfl 8192 (by omega) (by omega) W
  have hrep : (List.replicate 8192 (Value.bool false)) = bools (bl (fun x => memB [] x && decide (cnt (memB N) x < n)) 8192) := by
    unfold bools bl
    apply List.ext_getElem?
    intro j
    simp only [List.getElem?_replicate, List.getElem?_map]
    by_cases hj : j < 8192
    · simp [hj, memB_nil]
    · simp [hj]
  have hrep2 : bl (fun x => memB [] x && decide (cnt (memB N) x < n)) 8192 = bl (fun x => memB [] x && !decide (cnt (memB N) x < n)) 8192 := bl_congr fun x _ => rfl
  rw [hrep] at hmk
  obtain ⟨C, hC⟩ : ∃ C, C = (bools (bl (fun x => memB [] x && decide (cnt (memB N) x < n)) 8192)).toArray := ⟨_, rfl⟩
  rw [← hC] at hmk
  have e0 : C.toList = bools (bl (fun x => memB [] x && decide (cnt (memB N) x < n)) 8192) := by rw [hC]
  have hsz : C.size = 8192 := by rw [hC]; simp [bools, bl]
  have hF := ((Crew.start w).made C 4 8192 hsz (by omega)).made C 4 8192 hsz (by omega)
  rw [show (w.alloc (.cells C 4)).heap.size = w.heap.size + 1 by simp] at hF
  have hF0 : Crew (fun _ => False) w [blT (.slice (some ⟨w.heap.size, 0, none⟩) 8192 8192) (bl (fun x => memB [] x && decide (cnt (memB N) x < n)) 8192) 8192, blT (.slice (some ⟨w.heap.size + 1, 0, none⟩) 8192 8192) (bl (fun x => memB [] x && !decide (cnt (memB N) x < n)) 8192) 8192] ((w.alloc (.cells C 4)).alloc (.cells C 4)) := by
    rw [← hrep2]
    show Crew _ w [rowT 0 4 1 _ 8192 (bools _), rowT 0 4 1 _ 8192 (bools _)] _
    rw [← e0]
    exact hF
  have HF0 := Lib.hid hF0
  clear hF hF0 e0 hsz hrep hrep2 hC
  have HW := Lib.hid (Nat.le_refl w.heap.size)
  go_enter Try.func22, Try.ntmps22
  go_wp2_with (first | (go_at_call 18; (with_reducible refine HT.out.mono ?_); rintro e w3 ⟨rfl, rfl⟩))
  clear hmk
  generalize w.heap.size = g at HF0 ⊢
  go_loopw [1, 9, 10] (fun v i _ wr => ∃ k : Nat, i = .int .i64 k ∧ k ≤ len ∧ v = .int .i64 ((n - total (N.take k) : Nat) : Int) ∧ Crew (fun _ => False) w [blT (.slice (some ⟨g, 0, none⟩) 8192 8192) (bl (fun x => memB (N.take k) x && decide (cnt (memB N) x < n)) 8192) 8192, blT (.slice (some ⟨g + 1, 0, none⟩) 8192 8192) (bl (fun x => memB (N.take k) x && !decide (cnt (memB N) x < n)) 8192) 8192] wr) (fun _ i _ _ => (len - intOf i).toNat)
  case atStart => exact ⟨0, rfl, Nat.zero_le _, by simp [total], HF0.out⟩
  case round =>
    obtain ⟨k, rfl, hk, rfl, hC⟩ := hrel
    have HC := Lib.hid hC
    clear hC
    by_cases hlt : k < len
    · have hltI : (k : Int) < len := by omega
      obtain ⟨x, rfl, c0, c1⟩ := HS.out wr HC.out.bel k (by rw [castS_length, HL.out]; exact hlt)
      rw [castS_getD] at c0 c1
      have hfit := HFIT.out k hlt
      have HCN := Lib.hid (fun y h1 h2 => cnt_at HCH.out k y (by rw [HL.out]; exact hlt) h1 h2)
      have HTK := Lib.hid (take_snoc N k (0, 0) (by rw [HL.out]; exact hlt))
      generalize hsk : N.getD k (0, 0) = s at *
      have HSK := Lib.hid hsk
      clear hsk
      obtain ⟨s1, s2⟩ := s
      dsimp only at c0 c1 hfit HCN
      generalize hT : total (N.take k) = T at *
      have HTT := Lib.hid hT
      clear hT
      go_wp2
      go_loopw [1, 10] (fun v i wq => ∃ y : Nat, i = .int .i64 y ∧ s1 ≤ y ∧ y ≤ s1 + s2 ∧ v = .int .i64 ((n - (T + (y - s1)) : Nat) : Int) ∧ Crew (fun _ => False) w [blT (.slice (some ⟨g, 0, none⟩) 8192 8192) (bl (fun x => (memB (N.take k) x || inB (s1, y - s1) x) && decide (cnt (memB N) x < n)) 8192) 8192, blT (.slice (some ⟨g + 1, 0, none⟩) 8192 8192) (bl (fun x => (memB (N.take k) x || inB (s1, y - s1) x) && !decide (cnt (memB N) x < n)) 8192) 8192] wq) (fun _ i _ => ((s1 : Int) + s2 - intOf i).toNat)
      case atStart =>
        refine ⟨s1, rfl, Nat.le_refl _, by omega, by simp, ?_⟩
        have e : ∀ z, inB (s1, s1 - s1) z = false := fun z => by
          rw [Bool.eq_false_iff]
          intro e
          have := (inB_iff _ _).1 e
          dsimp only at this
          omega
        have e1 : bl (fun x => (memB (N.take k) x || inB (s1, s1 - s1) x) && decide (cnt (memB N) x < n)) 8192 = bl (fun x => memB (N.take k) x && decide (cnt (memB N) x < n)) 8192 := bl_congr fun z _ => by rw [e, Bool.or_false]
        have e2 : bl (fun x => (memB (N.take k) x || inB (s1, s1 - s1) x) && !decide (cnt (memB N) x < n)) 8192 = bl (fun x => memB (N.take k) x && !decide (cnt (memB N) x < n)) 8192 := bl_congr fun z _ => by rw [e, Bool.or_false]
        rw [e1, e2]
        exact HC.out
      case round =>
        obtain ⟨y, rfl, hy1, hy2, rfl, hF⟩ := hrel
        obtain ⟨x', ex, c0, c1⟩ := HS.out wr hF.bel k (by rw [castS_length, HL.out]; exact hlt)
        cases ex
        rw [castS_getD, HSK.out] at c0 c1
        dsimp only at c0 c1
        have HF2 := Lib.hid hF
        clear hF
        by_cases hlt3 : y < s1 + s2
        · have hltI3 : (y : Int) < (s1 : Int) + s2 := by omega
          have hyn : y < 8192 := by omega
          have hynI : (y : Int) < 8192 := by omega
          have hcy := HCN.out y hy1 hy2
          have e2 : ∀ z, inB (s1, y + 1 - s1) z = (decide (z = y) || inB (s1, y - s1) z) := fun z => by
            rw [Bool.eq_iff_iff, Bool.or_eq_true, inB_iff, inB_iff, decide_eq_true_eq]
            dsimp only
            omega
          have E2 := Lib.hid e2
          clear e2
          have hy3 : T + (y + 1 - s1) = T + (y - s1) + 1 := by omega
          have HY3 := Lib.hid hy3
          clear hy3
          obtain ⟨d0, d1⟩ := HF2.out.cell 0 rfl (bools_get _ y (by rw [bl_length]; exact hyn))
          obtain ⟨f0, f1⟩ := HF2.out.cell 1 rfl (bools_get _ y (by rw [bl_length]; exact hyn))
          generalize (bl (fun x => (memB (N.take k) x || inB (s1, y - s1) x) && decide (cnt (memB N) x < n)) 8192).getD y false = ob at d0
          generalize (bl (fun x => (memB (N.take k) x || inB (s1, y - s1) x) && !decide (cnt (memB N) x < n)) 8192).getD y false = tb at f0
          generalize hP : T + (y - s1) = P at *
          have HPP := Lib.hid hP
          clear hP
          by_cases hpn : P < n
          · have hpnI : (0 : Int) < ((n - P : Nat) : Int) := by omega
            have HSET : Hid (Crew (fun _ => False) w [blT (.slice (some ⟨g, 0, none⟩) 8192 8192) (bl (fun x => (memB (N.take k) x || inB (s1, y + 1 - s1) x) && decide (cnt (memB N) x < n)) 8192) 8192, blT (.slice (some ⟨g + 1, 0, none⟩) 8192 8192) (bl (fun x => (memB (N.take k) x || inB (s1, y + 1 - s1) x) && !decide (cnt (memB N) x < n)) 8192) 8192] (wr.setCell ⟨g, y, none⟩ (.bool true))) := by
              have hset := HF2.out.put 0 rfl y (.bool true)
              rw [bools_set, bl_set] at hset
              have e1 : bl (fun z => if z = y then true else (memB (N.take k) z || inB (s1, y - s1) z) && decide (cnt (memB N) z < n)) 8192 = bl (fun x => (memB (N.take k) x || inB (s1, y + 1 - s1) x) && decide (cnt (memB N) x < n)) 8192 := bl_congr fun z _ => by
                rw [E2.out]
                by_cases ez : z = y
                · subst ez
                  have : decide (cnt (memB N) z < n) = true := decide_eq_true (by omega)
                  rw [this]
                  simp
                · simp [ez]
              have e3 : bl (fun x => (memB (N.take k) x || inB (s1, y - s1) x) && !decide (cnt (memB N) x < n)) 8192 = bl (fun x => (memB (N.take k) x || inB (s1, y + 1 - s1) x) && !decide (cnt (memB N) x < n)) 8192 := bl_congr fun z _ => by
                rw [E2.out]
                by_cases ez : z = y
                · subst ez
                  have : decide (cnt (memB N) z < n) = true := decide_eq_true (by omega)
                  rw [this]
                  simp
                · simp [ez]
              rw [e1] at hset
              rw [← e3]
              exact hset
            go_wp2_with fail
            go_quiet (fail)
            have HBQ := Lib.hid (Crew.below (w' := (wr.drewN nq).setCell ⟨g, y, none⟩ (.bool true)) HSET.out (below_drewN (Below.refl _ _) nq))
            have d1' : (wr.drewN nq).frozen? ⟨g, y, none⟩ = false := d1
            have d0' : (wr.drewN nq).cell? ⟨g, y, none⟩ = _ := d0
            clear HSET HF2 c0 c1 d0 d1 f0 f1 hcy
            generalize wr.drewN nq = wq at *
            go_wp2
            go_roundw
            case rel =>
              refine ⟨y + 1, by go_num, by omega, by omega, ?_, HBQ.out⟩
              rw [HY3.out]
              congr 1
              omega
            case measure => simp [intOf]; omega
          · have hpnI : ¬ (0 : Int) < ((n - P : Nat) : Int) := by omega
            have HSET : Hid (Crew (fun _ => False) w [blT (.slice (some ⟨g, 0, none⟩) 8192 8192) (bl (fun x => (memB (N.take k) x || inB (s1, y + 1 - s1) x) && decide (cnt (memB N) x < n)) 8192) 8192, blT (.slice (some ⟨g + 1, 0, none⟩) 8192 8192) (bl (fun x => (memB (N.take k) x || inB (s1, y + 1 - s1) x) && !decide (cnt (memB N) x < n)) 8192) 8192] (wr.setCell ⟨g + 1, y, none⟩ (.bool true))) := by
              have hset := HF2.out.put 1 rfl y (.bool true)
              rw [bools_set, bl_set] at hset
              have e1 : bl (fun z => if z = y then true else (memB (N.take k) z || inB (s1, y - s1) z) && !decide (cnt (memB N) z < n)) 8192 = bl (fun x => (memB (N.take k) x || inB (s1, y + 1 - s1) x) && !decide (cnt (memB N) x < n)) 8192 := bl_congr fun z _ => by
                rw [E2.out]
                by_cases ez : z = y
                · subst ez
                  have : decide (cnt (memB N) z < n) = false := decide_eq_false (by omega)
                  rw [this]
                  simp
                · simp [ez]
              have e3 : bl (fun x => (memB (N.take k) x || inB (s1, y - s1) x) && decide (cnt (memB N) x < n)) 8192 = bl (fun x => (memB (N.take k) x || inB (s1, y + 1 - s1) x) && decide (cnt (memB N) x < n)) 8192 := bl_congr fun z _ => by
                rw [E2.out]
                by_cases ez : z = y
                · subst ez
                  have : decide (cnt (memB N) z < n) = false := decide_eq_false (by omega)
                  rw [this]
                  simp
                · simp [ez]
              rw [e1] at hset
              rw [← e3]
              exact hset
            have hz0 : n - P = 0 := by omega
            rw [hz0]
            go_wp2_with fail
            go_quiet (fail)
            have HBQ := Lib.hid (Crew.below (w' := (wr.drewN nq).setCell ⟨g + 1, y, none⟩ (.bool true)) HSET.out (below_drewN (Below.refl _ _) nq))
            have f1' : (wr.drewN nq).frozen? ⟨g + 1, y, none⟩ = false := f1
            have f0' : (wr.drewN nq).cell? ⟨g + 1, y, none⟩ = _ := f0
            clear HSET HF2 c0 c1 d0 d1 f0 f1 hcy
            generalize wr.drewN nq = wq at *
            go_wp2
            go_roundw
            case rel =>
              refine ⟨y + 1, by go_num, by omega, by omega, ?_, HBQ.out⟩
              rw [HY3.out, show n - (P + 1) = 0 by omega]
              rfl
            case measure => simp [intOf]; omega
        · have hltI3 : ¬ (y : Int) < (s1 : Int) + s2 := by omega
          have hye : y - s1 = s2 := by omega
          have HYE := Lib.hid hye
          clear hye
          go_wp2_with fail
          go_quiet (fail)
          have HF3 := Lib.hid (HF2.out.below (below_drewN (Below.refl wr.heap.size wr) nq))
          clear HF2 c0 c1
          generalize wr.drewN nq = wq at *
          go_wp2
          have ht : total (N.take (k + 1)) = T + (y - s1) := by
            rw [HTK.out, total_append, HTT.out, total_cons, total_nil, HYE.out]
            rfl
          have e : ∀ z, memB (N.take (k + 1)) z = (memB (N.take k) z || inB (s1, y - s1) z) := fun z => by
            rw [HTK.out, memB_append, HYE.out]
            simp [memB]
          have e1 : bl (fun x => memB (N.take (k + 1)) x && decide (cnt (memB N) x < n)) 8192 = bl (fun x => (memB (N.take k) x || inB (s1, y - s1) x) && decide (cnt (memB N) x < n)) 8192 := bl_congr fun z _ => by rw [e]
          have e2 : bl (fun x => memB (N.take (k + 1)) x && !decide (cnt (memB N) x < n)) 8192 = bl (fun x => (memB (N.take k) x || inB (s1, y - s1) x) && !decide (cnt (memB N) x < n)) 8192 := bl_congr fun z _ => by rw [e]
          go_roundw
          case rel =>
            refine ⟨k + 1, by go_num, by omega, by rw [ht], ?_⟩
            rw [e1, e2]
            exact HF3.out
          case measure => simp [intOf]; omega
    · have hltI : ¬ (k : Int) < len := by omega
      have hkl : N.take k = N := List.take_of_length_le (by have := HL.out; omega)
      rw [hkl] at HC
      obtain ⟨h1, h2⟩ := bools_own (HC.out.own 0 rfl)
      have HR1 := Lib.hid (rrow_any _ _ 8192 8192 wr h2 h1 (by omega))
      clear h1 h2 hkl
      generalize n - total (N.take k) = rest at *
      go_wp2_with fail
      refine HR1.out.mono ?_
      rintro e w2 ⟨v1, rfl, hf1⟩
      rw [bl_fun] at hf1
      have HC1 := Lib.hid (HC.out.more hf1)
      obtain ⟨h1, h2⟩ := bools_own (HC1.out.own 1 rfl)
      have HR2 := Lib.hid (rrow_any _ _ 8192 8192 w2 h2 h1 (by omega))
      clear h1 h2 hf1
      go_wp2_with fail
      refine HR2.out.mono ?_
      rintro e w3 ⟨v2, rfl, hf2⟩
      rw [bl_fun] at hf2
      have HC2 := Lib.hid (HC1.out.more hf2)
      clear hf2
      go_wp2
      go_ret3
      exact ⟨v1, v2, rfl, HC2.out.tail.tail⟩

end Go.Proofs.Ytcknpmlekpgafaa
