/-
  DevEither: for every input the law answers true: behind the power each sector has what it had at the last flush, or what a pending write wrote; with all kept what was there last, with none what there was at the flush. Conditions: none.
-/
import Derived.Test.YtchbmchgdhmmmaaDvShown
import Derived.Test.YtchbmchgdhmmmaaDvSmall
import Derived.Test.YtchbmchgdhmmmaaDvMath
import Derived.Test.YtchbmchgdhmmmaaTail
import Derived.Test.YtchbmchgdhmmmaaDvAft
namespace Go.Proofs.Ytchbmchgdhmmmaa.devEither
open Go.ChangeShapes Go.WideShapes Go.ChangeAt Go.RowKit Go.Rc4
open Go.ChangeMaps (open_string shut_string)

theorem open_keeps {H : Type} {enc : TypeId × Value → H} {w : World} {base : Nat} {held : Bool} {fuel : Nat} {a : Option Addr} {len cap : Nat} {x : DataW H × List MemPlace}
    (h : DataW.trod enc Try.prog w base (fun _ => true) held fuel 33 [.slice a len cap] = some x) : ∃ zs, IsRow .i64 w a len cap zs := by
  rcases open_ints Try.underlying33 Try.underlying3 (by kernel_rfl) h with ⟨hcs, _⟩ | ⟨x, l, c, zs, hcs, _, hl, hm, hz, _, hcell, hwz⟩
  · simp only [List.cons.injEq, Value.slice.injEq, and_true] at hcs
    obtain ⟨rfl, rfl, rfl⟩ := hcs
    exact ⟨[], .inl ⟨rfl, rfl, rfl, rfl⟩⟩
  · simp only [List.cons.injEq, Value.slice.injEq, and_true] at hcs
    obtain ⟨rfl, rfl, rfl⟩ := hcs
    exact ⟨zs, .inr ⟨_, rfl, hl, hm, by simpa using hz, hcell, hwz⟩⟩

theorem text_eq (s t : ByteArray) : s.toList = t.toList ↔ s = t := by
  rw [ByteArray.toList_eq, ByteArray.toList_eq]
  constructor
  · intro h
    apply ByteArray.ext
    exact Array.ext' h
  · rintro rfl
    rfl

theorem row_keep {w : World} {a : Option Addr} {len cap : Nat} {zs : List Int} (h : IsRow .i64 w a len cap zs) : (zs.take len).length = len ∧ ∀ j, j < len → ∃ y, a = some y ∧ y.block < w.heap.size ∧ w.cell? (y.add j) = some (.int .i64 ((zs.take len).getD j 0)) := by
  rcases h with ⟨rfl, rfl, rfl, rfl⟩ | ⟨x, rfl, hl, _, hz, hc, _⟩
  · exact ⟨rfl, fun j hj => absurd hj (Nat.not_lt_zero _)⟩
  · refine ⟨by simp; omega, fun j hj => ⟨x, rfl, ?_, ?_⟩⟩
    · have := row_block (hc 0 (by omega))
      simpa [Addr.add] using this
    · rw [hc j (by omega)]
      simp [List.getD_eq_getElem?_getD, hj]

set_option maxRecDepth 100000 in
set_option maxHeartbeats 8000000 in
theorem go (a0 : Option Addr) (len0 cap0 : Nat) (z0 : Nat → AR) (a1 : Option Addr) (len1 cap1 : Nat) (z1 : Nat → AR) (a2 : Option Addr) (len2 cap2 : Nat) (ks : List Int) (w : World) (h0 : IsActs w a0 len0 z0) (h1 : IsActs w a1 len1 z1)
    (h2 : ks.length = len2 ∧ ∀ j, j < len2 → ∃ y, a2 = some y ∧ y.block < w.heap.size ∧ w.cell? (y.add j) = some (.int .i64 (ks.getD j 0))) (hs0 : small len0 z0 = true) (hs1 : small len1 z1 = true) (hl2 : len2 ≤ 100) :
    Calls Try.prog 4 #[.slice a0 len0 cap0, .slice a1 len1 cap1, .slice a2 len2 cap2] w fun e w' => e = .returned (.bool true) ∧ Below w.heap.size w w' := by
  have HA := Lib.hid (fun W (hb : Below w.heap.size w W) => IsActs.below h0 hb)
  have HB := Lib.hid (fun W (hb : Below w.heap.size w W) => IsActs.below h1 hb)
  have HK := Lib.hid h2
  have HSH := Lib.hid (shown_any w)
  have hlen0 := small_len hs0
  have hlen1 := small_len hs1
  have hl2I : ¬ (100 : Int) < len2 := by omega
  have HS0 := Lib.hid hs0
  have HS1 := Lib.hid hs1
  clear h0 h1 h2 hs0 hs1
  go_enter Try.func4, Try.ntmps4
  go_wp2_with fail
  refine HSH.out.mono ?_
  rintro e wA ⟨rfl, hbA⟩
  have HF := Lib.hid ((Fleet.start w).below hbA)
  clear hbA
  go_wp2_with fail
  have C := small_any a0 len0 cap0 z0 wA (HA.out _ HF.out.bel)
  rw [HS0.out] at C
  refine C.mono ?_
  clear C
  rintro e wB ⟨rfl, rfl⟩
  go_wp2_with fail
  have C := small_any a1 len1 cap1 z1 wA (HB.out _ HF.out.bel)
  rw [HS1.out] at C
  refine C.mono ?_
  clear C
  rintro e wB ⟨rfl, rfl⟩
  go_wp2_with fail
  refine (fleet_new HF.out 5 (by omega) (by omega)).mono ?_
  rintro e wB ⟨b, rfl, hF⟩
  replace HF := Lib.hid hF
  clear hF
  obtain ⟨S0, hS0⟩ : ∃ S, S = List.replicate 5 nought := ⟨_, rfl⟩
  have hN : DS.new 5 = aft S0 5 z0 0 := by rw [hS0]; rfl
  have hS5 : S0.length = 5 := by rw [hS0]; rfl
  rw [hN] at HF
  have HSL := Lib.hid hS5
  clear hS0 hN hS5
  go_wp2
  go_loopw [12] (fun i wr => ∃ k : Nat, i = .int .i64 k ∧ k ≤ len0 ∧ Fleet w.heap.size w [devT w.heap.size b (aft S0 5 z0 k)] wr) (fun i _ => (len0 - intOf i).toNat)
  case atStart => exact ⟨0, rfl, Nat.zero_le _, HF.out⟩
  case round =>
    obtain ⟨k, rfl, hk, hF⟩ := hrel
    have HF3 := Lib.hid hF
    clear hF
    by_cases hlt : k < len0
    · have hltI : (k : Int) < len0 := by omega
      obtain ⟨x, rfl, cc⟩ := HA.out w (Below.refl _ _) k hlt
      have HQ1 := Lib.hid (fun W (hb : Below w.heap.size w W) => (hb.cell (row_block cc.c1)).trans cc.c1)
      have HQ2 := Lib.hid (fun W (hb : Below w.heap.size w W) => (hb.cell (row_block cc.c2)).trans cc.c2)
      have HPA := Lib.hid (pick_lit (z0 k).at_ cc.i1 5 5 rfl (by omega) (by omega))
      have HSE := Lib.hid (sector_any (z0 k).n)
      have HW := Lib.hid (aft_wr HSL.out (by omega) z0 k)
      clear cc
      generalize (z0 k).at_ = r1 at *
      generalize (z0 k).n = r2 at *
      generalize pk r1 5 = at4 at *
      generalize sec r2 = t at *
      have q1 := after_cell (HQ1.out wr HF3.out.bel) (row_block (HQ1.out wr HF3.out.bel))
      have q2 := after_cell (HQ2.out wr HF3.out.bel) (row_block (HQ2.out wr HF3.out.bel))
      go_wp2
      refine wp_region_then 13 (by kernel_rfl) (by kernel_rfl) ?_
      simp only [List.take_succ_cons, List.take_zero, List.drop_succ_cons, List.drop_zero]
      repeat (go_big_quiet_step (first | with_reducible exact after_same HPA.out _ | with_reducible exact after_call HSE.out _))
      refine wpQuiet_nil ?_
      intro _ hw'
      obtain ⟨p, rfl⟩ := hw'
      have hF := HF3.out.below p.is
      clear q1 q2
      generalize p.to = w4 at hF ⊢
      have C := fleet_write hF 0 rfl (by simp [aft, ws_length]; omega) at4 t
      rw [HW.out] at C
      have HC := Lib.hid C
      clear hF C
      go_wp2_with fail
      refine HC.out.mono ?_
      clear HC
      rintro e w5 ⟨rfl, hF⟩
      have HF5 := Lib.hid hF
      clear hF
      go_wp2
      exact ⟨⟨k + 1, by go_num, by omega, HF5.out⟩, by simp [intOf]; omega⟩
    · have hltI : ¬ (k : Int) < len0 := by omega
      obtain rfl : k = len0 := by omega
      have C := fleet_flush HF3.out 0 rfl
      rw [aft_fl HSL.out z0 z1 k] at C
      have HC := Lib.hid C
      have HSL1 : Hid ((puts S0 (ws 5 z0 k)).length = 5) := (puts_length _ _).trans HSL.out
      clear C HSL
      generalize puts S0 (ws 5 z0 k) = S at *
      go_wp2_with fail
      refine HC.out.mono ?_
      clear HC
      rintro e w2 ⟨rfl, hF⟩
      have HF4 := Lib.hid hF
      clear hF
      go_wp2_with fail
      refine (fleet_clone HF4.out 0 rfl).mono ?_
      rintro e w3 ⟨la, rfl, hF⟩
      replace HF4 := Lib.hid (hF.nil 3 1)
      clear hF
      go_wp2
      go_loopw [14, 15] (fun v i wr => ∃ m : Nat, i = .int .i64 m ∧ m ≤ len1 ∧ Fleet w.heap.size w [devT w.heap.size b (aft S 5 z1 m), devT w.heap.size la (aft S 5 z1 0), rowT w.heap.size 3 1 v m (ints (List.replicate m 1))] wr) (fun _ i _ => (len1 - intOf i).toNat)
      case atStart => exact ⟨0, rfl, Nat.zero_le _, HF4.out⟩
      case round =>
        obtain ⟨m, rfl, hm, hF⟩ := hrel
        have HF5 := Lib.hid hF
        obtain ⟨ka, kc, rfl⟩ := hF.slice 2 rfl
        clear hF
        by_cases hlt1 : m < len1
        · have hltI1 : (m : Int) < len1 := by omega
          obtain ⟨x, rfl, cc⟩ := HB.out w (Below.refl _ _) m hlt1
          have HQ1 := Lib.hid (fun W (hb : Below w.heap.size w W) => (hb.cell (row_block cc.c1)).trans cc.c1)
          have HQ2 := Lib.hid (fun W (hb : Below w.heap.size w W) => (hb.cell (row_block cc.c2)).trans cc.c2)
          have HPA := Lib.hid (pick_lit (z1 m).at_ cc.i1 5 5 rfl (by omega) (by omega))
          have HSE := Lib.hid (sector_any (z1 m).n)
          have HW := Lib.hid (aft_wr HSL1.out (by omega) z1 m)
          clear cc
          generalize (z1 m).at_ = r1 at *
          generalize (z1 m).n = r2 at *
          generalize pk r1 5 = at4 at *
          generalize sec r2 = t at *
          have q1 := after_cell (HQ1.out wr HF5.out.bel) (row_block (HQ1.out wr HF5.out.bel))
          have q2 := after_cell (HQ2.out wr HF5.out.bel) (row_block (HQ2.out wr HF5.out.bel))
          go_wp2
          refine wp_region_then 13 (by kernel_rfl) (by kernel_rfl) ?_
          simp only [List.take_succ_cons, List.take_zero, List.drop_succ_cons, List.drop_zero]
          repeat (go_big_quiet_step (first | with_reducible exact after_same HPA.out _ | with_reducible exact after_call HSE.out _))
          refine wpQuiet_nil ?_
          intro _ hw'
          obtain ⟨p, rfl⟩ := hw'
          have hF := HF5.out.below p.is
          clear q1 q2
          generalize p.to = w6 at hF ⊢
          have C := fleet_write hF 0 rfl (by simp [aft, ws_length]; omega) at4 t
          rw [HW.out] at C
          have HC := Lib.hid C
          clear hF C
          go_wp2_with fail
          refine HC.out.mono ?_
          clear HC
          rintro e w7 ⟨rfl, hF⟩
          have HF7 := Lib.hid (hF.below ((Below.refl _ w7).alloc (Nat.le_refl _) (.cells #[.int .i64 1] 3)))
          clear hF
          go_wp2_with (at_builtin; refine wpList_append_fleet HF7.out 2 rfl rfl (.tmp 103) (.tmp 104) 33 rfl (.int .i64 0) 8 Try.underlying33 (by kernel_rfl) rfl (by decide) rfl ⟨w7.heap.size, 0, none⟩ 1 1 [.int .i64 1] rfl rfl ?cells ?one ?b1 ?b2 ?next)
          case cells =>
            intro j u hu
            have hj : j = 0 := by
              cases j with
              | zero => rfl
              | succ j => simp at hu
            subst hj
            simp at hu
            subst hu
            exact Lib.cell_of_heap (heap_alloc_new w7 _) 0
          case one =>
            intro u hu
            simp at hu
            subst hu
            rfl
          case b1 => unfold maxLen; omega
          case b2 => omega
          case next =>
            intro v' w8 hF
            have hF8 : Fleet w.heap.size w [devT w.heap.size b (aft S 5 z1 (m + 1)), devT w.heap.size la (aft S 5 z1 0), rowT w.heap.size 3 1 v' (m + 1) (ints (List.replicate (m + 1) 1))] w8 := by
              have e : ints (List.replicate m 1) ++ [Value.int .i64 1] = ints (List.replicate (m + 1) 1) := by
                rw [List.replicate_succ']
                simp [ints]
              rw [e] at hF
              exact hF
            have HF8 := Lib.hid hF8
            clear hF hF8
            go_wp2
            exact ⟨⟨m + 1, by go_num, by omega, HF8.out⟩, by simp [intOf]; omega⟩
        · have hltI1 : ¬ (m : Int) < len1 := by omega
          obtain rfl : m = len1 := by omega
          go_wp2_with fail
          refine (fleet_clone HF5.out 0 rfl).mono ?_
          rintro e w3 ⟨on, rfl, hF⟩
          replace HF5 := Lib.hid hF
          clear hF
          go_wp2_with fail
          refine (fleet_clone HF5.out 0 rfl).mono ?_
          rintro e w3 ⟨tw, rfl, hF⟩
          replace HF5 := Lib.hid hF
          clear hF
          go_wp2_with fail
          refine (fleet_power_row HF5.out 3 rfl 2 (by decide) _ _ _ _ rfl).mono ?_
          rintro e w3 ⟨rfl, hF⟩
          replace HF5 := Lib.hid hF
          clear hF
          go_wp2_with fail
          refine (fleet_power_in HF5.out 4 rfl none 0 0 [] rfl (fun j hj => absurd hj (Nat.not_lt_zero _))).mono ?_
          rintro e w3 ⟨rfl, hF⟩
          replace HF5 := Lib.hid hF
          clear hF
          go_wp2_with fail
          refine (fleet_clone HF5.out 0 rfl).mono ?_
          rintro e w3 ⟨nw, rfl, hF⟩
          replace HF5 := Lib.hid hF
          clear hF
          go_wp2_with fail
          refine (fleet_power_in HF5.out 0 rfl a2 len2 cap2 ks HK.out.1 (fun j hj => by obtain ⟨y, hy, hyb, hc⟩ := HK.out.2 j hj; exact ⟨y, hy, hyb, (HF5.out.bel.cell (row_block hc)).trans hc⟩)).mono ?_
          rintro e w3 ⟨rfl, hF⟩
          have HOK := Lib.hid (HF5.out.ok 0 rfl)
          have HF6 := Lib.hid hF
          clear hF HF5
          have HE := Lib.hid (fun j hj => aft_either HSL1.out z1 z1 m ks j hj)
          have HAL := Lib.hid (aft_all S 5 z1 m)
          have HNO := Lib.hid (aft_none S 5 z1 z1 m)
          have fd := Lib.hid ((aft_free HSL1.out z1 m).pw HOK.out ks)
          have fo := Lib.hid ((aft_free HSL1.out z1 m).pw HOK.out (List.replicate m 1))
          have ft := Lib.hid ((aft_free HSL1.out z1 m).pw HOK.out [])
          have fn := Lib.hid (aft_free HSL1.out z1 m)
          have fl := Lib.hid (aft_free HSL1.out z1 0)
          have hpe : ((aft S 5 z1 m).pw ks).p = [] := rfl
          have HPE := Lib.hid hpe
          clear hpe
          simp only [List.set_cons_zero, List.set_cons_succ, List.cons_append, List.nil_append] at HF6
          generalize (aft S 5 z1 m).pw ks = D at *
          generalize (aft S 5 z1 m).pw (List.replicate m 1) = D1 at *
          generalize (aft S 5 z1 m).pw [] = D2 at *
          generalize aft S 5 z1 m = D3 at *
          generalize aft S 5 z1 0 = D4 at *
          obtain ⟨FL, hF, g0, g1, g3, g4, g5⟩ : ∃ FL, Fleet w.heap.size w FL w3 ∧ FL[0]? = some (devT w.heap.size b D) ∧ FL[1]? = some (devT w.heap.size la D4) ∧ FL[3]? = some (devT w.heap.size on D1) ∧ FL[4]? = some (devT w.heap.size tw D2) ∧ FL[5]? = some (devT w.heap.size nw D3) := ⟨_, HF6.out, rfl, rfl, rfl, rfl, rfl⟩
          have HF7 := Lib.hid hF
          have G0 := Lib.hid g0
          have G1 := Lib.hid g1
          have G3 := Lib.hid g3
          have G4 := Lib.hid g4
          have G5 := Lib.hid g5
          clear hF g0 g1 g3 g4 g5 HF6
          go_wp2
          go_loopw [19, 20, 21, 22, 23, 24, 25, 26, 27, 28, 29, 30, 31] (fun i _ _ _ _ _ _ _ _ _ _ _ _ wq => ∃ j : Nat, i = .int .i64 j ∧ j ≤ 5 ∧ Fleet w.heap.size w FL wq) (fun i _ _ _ _ _ _ _ _ _ _ _ _ _ => (5 - intOf i).toNat)
          case atStart => exact ⟨0, rfl, by omega, HF7.out⟩
          case round =>
            obtain ⟨j, rfl, hj, hF⟩ := hrel
            by_cases hj5 : j < 5
            · have hj5I : (j : Int) < 5 := by omega
              have C0 := fleet_read hF 0 G0.out j
              have C1 := fleet_read hF 1 G1.out j
              have C3 := fleet_read hF 3 G3.out j
              have C4 := fleet_read hF 4 G4.out j
              have C5 := fleet_read hF 5 G5.out j
              rw [fd.out.rd hj5] at C0
              rw [fl.out.rd hj5] at C1
              rw [fo.out.rd hj5, HAL.out] at C3
              rw [ft.out.rd hj5, HNO.out] at C4
              rw [fn.out.rd hj5] at C5
              have he := HE.out j hj5
              have HC0 := Lib.hid C0
              have HC1 := Lib.hid C1
              have HC3 := Lib.hid C3
              have HC4 := Lib.hid C4
              have HC5 := Lib.hid C5
              have HF8 := Lib.hid hF
              clear C0 C1 C3 C4 C5 hF
              generalize D.s.getD j ⟨#[]⟩ = s at *
              generalize D4.s.getD j ⟨#[]⟩ = sa at *
              generalize D3.s.getD j ⟨#[]⟩ = sb at *
              have HEI := Lib.hid he
              clear he
              go_wp2_with fail
              refine HC0.out.mono ?_
              rintro e w6 ⟨rfl, rfl⟩
              go_wp2_with fail
              refine HC1.out.mono ?_
              rintro e w6 ⟨rfl, rfl⟩
              go_wp2_with fail
              refine HC3.out.mono ?_
              rintro e w6 ⟨rfl, rfl⟩
              go_wp2_with fail
              refine HC4.out.mono ?_
              rintro e w6 ⟨rfl, rfl⟩
              go_wp2_with fail
              refine HC5.out.mono ?_
              rintro e w6 ⟨rfl, rfl⟩
              go_wp2
              go_loopw [30, 31] (fun v i wq => ∃ (f : Bool) (q : Nat), v = .bool f ∧ i = .int .i64 q ∧ q ≤ m ∧ (f = true ↔ (s = sa ∨ ∃ i, i < q ∧ pk (z1 i).at_ 5 = j ∧ s = sec (z1 i).n)) ∧ Fleet w.heap.size w FL wq) (fun _ i _ => (m - intOf i).toNat)
              case atStart =>
                exact ⟨_, 0, rfl, rfl, Nat.zero_le _, by simp [text_eq], HF8.out⟩
              case round =>
                obtain ⟨f, q, rfl, rfl, hq, hf, hF⟩ := hrel
                have HF9 := Lib.hid hF
                have HFF := Lib.hid hf
                clear hF hf
                by_cases hqm : q < m
                · have hqmI : (q : Int) < m := by omega
                  obtain ⟨x, rfl, cc⟩ := HB.out wr HF9.out.bel q hqm
                  have c1 := cc.c1
                  have c2 := cc.c2
                  have HPA := Lib.hid (pick_lit (z1 q).at_ cc.i1 5 5 rfl (by omega) (by omega))
                  have HSE := Lib.hid (sector_any (z1 q).n)
                  have HNX : Hid ((∃ i, i < q + 1 ∧ pk (z1 i).at_ 5 = j ∧ s = sec (z1 i).n) ↔ (∃ i, i < q ∧ pk (z1 i).at_ 5 = j ∧ s = sec (z1 i).n) ∨ (pk (z1 q).at_ 5 = j ∧ s = sec (z1 q).n)) := by
                    constructor
                    · rintro ⟨i, hi, h⟩
                      by_cases e : i = q
                      · subst e; exact .inr h
                      · exact .inl ⟨i, by omega, h⟩
                    · rintro (⟨i, hi, h⟩ | h)
                      · exact ⟨i, by omega, h⟩
                      · exact ⟨q, by omega, h⟩
                  clear cc
                  generalize (z1 q).at_ = r1 at *
                  generalize (z1 q).n = r2 at *
                  generalize pk r1 5 = at5 at *
                  generalize sec r2 = t at *
                  cases f with
                  | true =>
                    go_wp2
                    refine ⟨⟨true, q + 1, rfl, by go_num, by omega, ?_, HF9.out⟩, by simp [intOf]; omega⟩
                    rw [HNX.out, ← or_assoc, ← HFF.out]
                    simp
                  | false =>
                    by_cases ha : at5 = j
                    · subst ha
                      by_cases hst : s = t
                      · subst hst
                        go_wp2_with (first | (go_at_call 16; (with_reducible refine (HPA.out _).mono ?_); rintro e w7 ⟨rfl, rfl⟩) | (go_at_call 17; (with_reducible refine (HSE.out _).mono ?_); rintro e w8 ⟨rfl, hb8⟩; have HF10 := Lib.hid (HF9.out.below hb8); clear hb8))
                        refine ⟨⟨true, q + 1, rfl, by go_num, by omega, ?_, HF10.out⟩, by simp [intOf]; omega⟩
                        rw [HNX.out]
                        simp
                      · have hstB : (s.toList == t.toList) = false := by simpa [text_eq] using hst
                        go_wp2_with (first | (go_at_call 16; (with_reducible refine (HPA.out _).mono ?_); rintro e w7 ⟨rfl, rfl⟩) | (go_at_call 17; (with_reducible refine (HSE.out _).mono ?_); rintro e w8 ⟨rfl, hb8⟩; have HF10 := Lib.hid (HF9.out.below hb8); clear hb8))
                        refine ⟨⟨false, q + 1, rfl, by go_num, by omega, ?_, HF10.out⟩, by simp [intOf]; omega⟩
                        rw [HNX.out, ← or_assoc, ← HFF.out]
                        simp [hst]
                    · have haB : ((at5 : Int) == j) = false := by simp; omega
                      go_wp2_with (first | (go_at_call 16; (with_reducible refine (HPA.out _).mono ?_); rintro e w7 ⟨rfl, rfl⟩))
                      refine ⟨⟨false, q + 1, rfl, by go_num, by omega, ?_, HF9.out⟩, by simp [intOf]; omega⟩
                      rw [HNX.out, ← or_assoc, ← HFF.out]
                      simp [ha]
                · have hqmI : ¬ (q : Int) < m := by omega
                  obtain rfl : q = m := by omega
                  have hft : f = true := HFF.out.2 HEI.out
                  subst hft
                  go_wp2
                  exact ⟨⟨j + 1, by go_num, by omega, HF9.out⟩, by simp [intOf]; omega⟩
            · have hj5I : ¬ (j : Int) < 5 := by omega
              have CP := fleet_pending hF 0 G0.out
              have CD := fleet_down hF 0 G0.out
              rw [HPE.out] at CP
              rw [fd.out.dn] at CD
              have HCP := Lib.hid CP
              have HCD := Lib.hid CD
              have HF8 := Lib.hid hF
              clear CP CD hF
              go_wp2_with (first | (go_at_call 21; (with_reducible refine HCP.out.mono ?_); rintro e w7 ⟨rfl, rfl⟩) | (go_at_call 22; (with_reducible refine HCD.out.mono ?_); rintro e w7 ⟨rfl, rfl⟩))
              go_ret
              exact ⟨rfl, HF8.out.bel⟩

set_option maxRecDepth 100000 in
set_option maxHeartbeats 4000000 in
theorem walk (a0 : Option Addr) (len0 cap0 : Nat) (z0 : Nat → AR) (a1 : Option Addr) (len1 cap1 : Nat) (z1 : Nat → AR) (a2 : Option Addr) (len2 cap2 : Nat) (z2 : List Int) (w : World) (h0 : IsActs w a0 len0 z0) (h1 : IsActs w a1 len1 z1) (h2 : IsRow .i64 w a2 len2 cap2 z2) :
    Calls Try.prog 4 #[.slice a0 len0 cap0, .slice a1 len1 cap1, .slice a2 len2 cap2] w fun e w' => e = .returned (.bool true) ∧ Below w.heap.size w w' := by
  by_cases hs0 : small len0 z0 = true
  · by_cases hs1 : small len1 z1 = true
    · by_cases hl2 : len2 ≤ 100
      · exact go a0 len0 cap0 z0 a1 len1 cap1 z1 a2 len2 cap2 _ w h0 h1 (row_keep h2) hs0 hs1 hl2
      · have hl2I : (100 : Int) < len2 := by omega
        have HSH := Lib.hid (shown_any w)
        have HSM := Lib.hid (fun W (hb : Below w.heap.size w W) => small_any a0 len0 cap0 z0 W (IsActs.below h0 hb))
        have HSN := Lib.hid (fun W (hb : Below w.heap.size w W) => small_any a1 len1 cap1 z1 W (IsActs.below h1 hb))
        rw [hs0] at HSM
        rw [hs1] at HSN
        clear h0 h1 h2
        go_enter Try.func4, Try.ntmps4
        go_wp2_with (first | (go_at_call 8; (with_reducible refine HSH.out.mono ?_); rintro e w1 ⟨rfl, hb1⟩) | (go_at_call 9; (with_reducible refine (HSM.out _ hb1).mono ?_); rintro e w2 ⟨rfl, rfl⟩) | (go_at_call 9; (with_reducible refine (HSN.out _ hb1).mono ?_); rintro e w2 ⟨rfl, rfl⟩))
        go_ret
        exact ⟨rfl, hb1⟩
    · have hs1' : small len1 z1 = false := by simpa using hs1
      have HSH := Lib.hid (shown_any w)
      have HSM := Lib.hid (fun W (hb : Below w.heap.size w W) => small_any a0 len0 cap0 z0 W (IsActs.below h0 hb))
      have HSN := Lib.hid (fun W (hb : Below w.heap.size w W) => small_any a1 len1 cap1 z1 W (IsActs.below h1 hb))
      rw [hs0] at HSM
      rw [hs1'] at HSN
      clear h0 h1 h2
      go_enter Try.func4, Try.ntmps4
      go_wp2_with (first | (go_at_call 8; (with_reducible refine HSH.out.mono ?_); rintro e w1 ⟨rfl, hb1⟩) | (go_at_call 9; (with_reducible refine (HSM.out _ hb1).mono ?_); rintro e w2 ⟨rfl, rfl⟩) | (go_at_call 9; (with_reducible refine (HSN.out _ hb1).mono ?_); rintro e w2 ⟨rfl, rfl⟩))
      go_ret
      exact ⟨rfl, hb1⟩
  · have hs0' : small len0 z0 = false := by simpa using hs0
    have HSH := Lib.hid (shown_any w)
    have HSM := Lib.hid (fun W (hb : Below w.heap.size w W) => small_any a0 len0 cap0 z0 W (IsActs.below h0 hb))
    have HSN := Lib.hid (fun W (hb : Below w.heap.size w W) => small_any a1 len1 cap1 z1 W (IsActs.below h1 hb))
    rw [hs0'] at HSM
    clear h0 h1 h2
    generalize small len1 z1 = s1 at HSN
    go_enter Try.func4, Try.ntmps4
    go_wp2_with (first | (go_at_call 8; (with_reducible refine HSH.out.mono ?_); rintro e w1 ⟨rfl, hb1⟩) | (go_at_call 9; (with_reducible refine (HSM.out _ hb1).mono ?_); rintro e w2 ⟨rfl, rfl⟩) | (go_at_call 9; (with_reducible refine (HSN.out _ hb1).mono ?_); rintro e w2 ⟨rfl, rfl⟩))
    go_ret
    exact ⟨rfl, hb1⟩

set_option maxRecDepth 100000 in
theorem lifted (os : Os) (started : os.Started) (H : Type) (enc : TypeId × Value → H) :
    ReturnsInHanded {} Try.checked os 4 .any (Rows.devEitherSpec.pre6 enc Try.prog Try.f4 Rows.devEitherRow.domain false) (Rows.devEitherSpec.post enc Try.prog Try.f4 false true false false) := by
  refine returnsInHanded_of_change (C := Try.checked) own started (by kernel_rfl) Try.func4
    (ChangeSpec.witness6 (enc := enc) (C := Try.checked) false ⟨#[], #[.slice none 0 0, .slice none 0 0, .slice none 0 0], []⟩ 8 (by kernel_rfl) (by kernel_rfl) (by kernel_rfl) (by kernel_rfl)) ?_
  intro W base args ds gs before hval0 hW _ _
  have hval : ∀ (j : Nat) t v, Try.f4.params[j]? = some t → args[j]? = some v → Value.okWide Try.prog W .any base t v := hval0
  have hW' := hW
  obtain ⟨p, q, hA0, hV, rfl, hfz, hnd⟩ := hW
  have hA : DataW.TrodAll enc Try.prog W 0 (fun _ => true) true Try.f4.params.toList args.toList ds p := hA0
  rw [Try.params4] at hA hval
  obtain ⟨v0, vs0, d0, ds0, p0, q0, hargs, rfl, rfl, h0, r0⟩ := trodAll_cons hA
  obtain ⟨v1, vs1, d1, ds1, p1, q1, rfl, rfl, rfl, h1, r1⟩ := trodAll_cons r0
  obtain ⟨v2, vs2, d2, ds2, p2, q2, rfl, rfl, rfl, h2, r2⟩ := trodAll_cons r1
  obtain ⟨rfl, rfl, rfl⟩ := trodAll_nil r2
  obtain rfl : args = #[v0, v1, v2] := by cases args; simp_all
  obtain ⟨rfl, rfl⟩ := trodVars_none hV
  obtain ⟨a0, len0, cap0, rfl⟩ := okWide_slice Try.underlying22 (hval 0 22 v0 rfl rfl)
  have k0 := h0
  have lt0 : ∀ x ∈ p0, x.block < W.heap.size := by obtain ⟨m, hm⟩ := k0; exact DataW.trod_lt m _ _ _ hm
  obtain ⟨z0, w0⟩ : ∃ zs, IsActs W a0 len0 zs := by
    obtain ⟨fuel, hf⟩ := h0
    exact open_acts hf
  obtain ⟨a1, len1, cap1, rfl⟩ := okWide_slice Try.underlying22 (hval 1 22 v1 rfl rfl)
  have k1 := h1
  have lt1 : ∀ x ∈ p1, x.block < W.heap.size := by obtain ⟨m, hm⟩ := k1; exact DataW.trod_lt m _ _ _ hm
  obtain ⟨z1, w1⟩ : ∃ zs, IsActs W a1 len1 zs := by
    obtain ⟨fuel, hf⟩ := h1
    exact open_acts hf
  obtain ⟨a2, len2, cap2, rfl⟩ := okWide_slice Try.underlying33 (hval 2 33 v2 rfl rfl)
  have k2 := h2
  have lt2 : ∀ x ∈ p2, x.block < W.heap.size := by obtain ⟨m, hm⟩ := k2; exact DataW.trod_lt m _ _ _ hm
  obtain ⟨z2, w2⟩ : ∃ zs, IsRow .i64 W a2 len2 cap2 zs := by
    obtain ⟨fuel, hf⟩ := h2
    exact open_keeps hf
  clear hA0 hval0
  refine (walk a0 len0 cap0 z0 a1 len1 cap1 z1 a2 len2 cap2 z2 W w0 w1 w2).mono fun e W' ⟨he, bel⟩ => ?_
  subst he
  exact ⟨_, rfl, _, _, _, [], _, [], hW', trodAll_mk1 (shut_bool Try.underlying4 _), (trodAll_cons_mk (Below.trod laidOut (by kernel_rfl) (of_decide_eq_true (by kernel_rfl)) k0 bel lt0) (trodAll_cons_mk (Below.trod laidOut (by kernel_rfl) (of_decide_eq_true (by kernel_rfl)) k1 bel lt1) (trodAll_cons_mk (Below.trod laidOut (by kernel_rfl) (of_decide_eq_true (by kernel_rfl)) k2 bel lt2) trodAll_mk0))), rfl, bel.frame _, fun h => by cases h⟩

theorem holds : Rows.DevEitherSaid :=
  OpenClaim.holds_of_wide 4 Try.f4 rfl rfl rfl rfl rfl rfl rfl ⟨rfl, rfl, rfl, rfl, rfl⟩ rfl rfl rfl rfl rfl (by kernel_rfl) Try.func4 (by kernel_rfl)
    (of_decide_eq_true (by kernel_rfl)) (by unfold Func.isWrapper; first | (rw [if_pos (by decide +kernel)]; kernel_rfl) | (rw [if_neg (by decide +kernel)]; exact ⟨rfl, rfl⟩))
    (fun os started H enc _ => lifted os started H enc)

end Go.Proofs.Ytchbmchgdhmmmaa.devEither
