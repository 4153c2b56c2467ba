/-
  The reference of layer 5: what row, inside and marks answer. Conditions: as each theorem states them.
-/
import Derived.Test.YtnknojkihjpjkaaSpIn
import Derived.Test.YtnknojkihjpjkaaTail
import Derived.RegionTactic
import Derived.BigRegion
namespace Go.Proofs.Ytnknojkihjpjkaa
open Go.RowKit Go.Rc5

theorem infoP : (Try.prog.info? 53).map (fun i => (i.zero, i.size, i.bytes)) = some (some (.agg #[.int .i64 0, .int .i64 0]), 2, 16) := by kernel_rfl

/-- A row of spans of the call's own. -/
abbrev spT (v : Value) (L : List SpI) : Thing 0 := rowT 0 53 2 v L.length (flatI L)

set_option maxHeartbeats 4000000 in
theorem rrow_any (B : List Bool) (a : Option Addr) (c n : Nat) (w : World) (h : BoolsAt w a B) (hn : B.length = n) (hB : n ≤ 8192) :
    Calls Try.prog 66 #[.slice a n c] w fun e w' => ∃ v, e = .returned v ∧ Fresh (spT v (castS (rows (fun x => B.getD x false) n))) w w' := by
  have HB := Lib.hid (fun W (hb : Below w.heap.size w W) => BoolsAt.below h hb)
  have HN := Lib.hid hn
  have H0 := Lib.hid ((Crew.start w).nil 53 2)
  clear h hn
  generalize hf : (fun x => B.getD x false) = f at *
  have HF := Lib.hid hf
  clear hf
  go_enter Try.func66, Try.ntmps66
  go_wp2
  go_loopw [3, 4] (fun v i wr => ∃ k : Nat, i = .int .i64 k ∧ k ≤ n ∧ Crew (fun _ => False) w [spT v (castS (rows f k))] wr) (fun _ i _ => (n - intOf i).toNat)
  case atStart => exact ⟨0, rfl, Nat.zero_le _, H0.out⟩
  case round =>
    obtain ⟨k, rfl, hk, hC⟩ := hrel
    obtain ⟨av, cv, rfl⟩ := hC.slice 0 rfl
    have HC := Lib.hid hC
    by_cases hlt : k < n
    · have hltI : (k : Int) < n := by omega
      obtain ⟨x, rfl, c0⟩ := HB.out wr hC.bel k (by rw [HN.out]; exact hlt)
      have e0 : B.getD k false = f k := by rw [← HF.out]
      rw [e0] at c0
      clear e0
      cases hfk : f k with
      | false =>
        rw [hfk] at c0
        have HR : Hid (rows f (k + 1) = rows f k) := by rw [rows, hfk, if_neg (by decide)]; exact rfl
        clear hC hfk
        go_wp2
        refine ⟨⟨k + 1, by go_num, by omega, ?_⟩, by simp [intOf]; omega⟩
        rw [HR.out]
        exact HC.out
      | true =>
        rw [hfk] at c0
        have HFK := Lib.hid hfk
        rcases Nat.eq_zero_or_pos k with hk0 | hk0
        · subst hk0
          have c0' : wr.cell? x = some (.bool true) := c0
          clear hfk c0 hltI
          have hltI : (0 : Int) < n := by omega
          have HR := Lib.hid (rows_app (k := 0) HFK.out (fun h => absurd h.1 (Nat.lt_irrefl _)))
          have hq := rows_len f 0
          rw [← castS_length] at hq
          generalize castS (rows f 0) = R at *
          obtain ⟨q, hQ⟩ : ∃ q, R.length = q := ⟨_, rfl⟩
          have HC' : Hid (Crew (fun _ => False) w [rowT 0 53 2 (.slice av q cv) q (flatI R)] wr) := by rw [← hQ]; exact HC.out
          rw [hQ] at hq ⊢
          have HQ := Lib.hid hQ
          clear hQ hC HC
          have HE := Lib.hid (HC'.out.below ((Below.refl _ wr).alloc (Nat.le_refl _) (.cells #[.int .i64 (0), .int .i64 1] 53)))
          go_wp2_with (at_builtin; refine wpList_append_crew HE.out 0 rfl rfl (.tmp 39) (.tmp 42) 23 rfl (.agg #[.int .i64 0, .int .i64 0]) 16 Try.underlying23 infoP rfl (by decide) rfl ⟨wr.heap.size, 0, none⟩ 1 1 [.int .i64 (0), .int .i64 1] rfl rfl ?c1 ?c2 ?b1 ?b2 ?next)
          case c1 =>
            intro j u hu
            rw [add_own, World.cell?_alloc_new]
            simpa using hu
          case c2 => intro u hu; simp at hu; rcases hu with rfl | rfl <;> rfl
          case b1 => unfold maxLen; omega
          case b2 => omega
          case next =>
            intro v' w2 hF
            have HF2 : Hid (Crew (fun _ => False) w [spT v' (castS (rows f (0 + 1)))] w2) := by
              rw [HR.out]
              show Crew _ w [rowT 0 53 2 _ (R ++ [_]).length (flatI (R ++ [_]))] w2
              rw [flatI_append, List.length_append, HQ.out]
              exact hF
            clear hF
            go_wp2
            exact ⟨⟨0 + 1, by go_num, by omega, HF2.out⟩, by simp [intOf]; omega⟩
        · obtain ⟨x', ex, c1⟩ := HB.out wr hC.bel (k - 1) (by rw [HN.out]; omega)
          cases ex
          have e0 : B.getD (k - 1) false = f (k - 1) := by rw [← HF.out]
          rw [e0] at c1
          have hkI : (0 : Int) < k := by omega
          have hk1 : (0 : Int) ≤ (k : Int) - 1 := by omega
          have hk2 : (k : Int) - 1 < n := by omega
          have HK0 := Lib.hid hk0
          cases hfm : f (k - 1) with
          | false =>
            rw [hfm] at c1
            have HFM := Lib.hid hfm
            clear hfm e0 hfk hk0
            have HR := Lib.hid (rows_app (k := k) HFK.out (fun h => by rw [HFM.out] at h; cases h.2))
            have hq := rows_len f k
            rw [← castS_length] at hq
            generalize castS (rows f k) = R at *
            obtain ⟨q, hQ⟩ : ∃ q, R.length = q := ⟨_, rfl⟩
            have HC' : Hid (Crew (fun _ => False) w [rowT 0 53 2 (.slice av q cv) q (flatI R)] wr) := by rw [← hQ]; exact HC.out
            rw [hQ] at hq ⊢
            have HQ := Lib.hid hQ
            clear hQ hC HC
            have HE := Lib.hid (HC'.out.below ((Below.refl _ wr).alloc (Nat.le_refl _) (.cells #[.int .i64 ((k : Int)), .int .i64 1] 53)))
            go_wp2_with (at_builtin; refine wpList_append_crew HE.out 0 rfl rfl (.tmp 39) (.tmp 42) 23 rfl (.agg #[.int .i64 0, .int .i64 0]) 16 Try.underlying23 infoP rfl (by decide) rfl ⟨wr.heap.size, 0, none⟩ 1 1 [.int .i64 ((k : Int)), .int .i64 1] rfl rfl ?c1 ?c2 ?b1 ?b2 ?next)
            case c1 =>
              intro j u hu
              rw [add_own, World.cell?_alloc_new]
              simpa using hu
            case c2 => intro u hu; simp at hu; rcases hu with rfl | rfl <;> rfl
            case b1 => unfold maxLen; omega
            case b2 => omega
            case next =>
              intro v' w2 hF
              have HF2 : Hid (Crew (fun _ => False) w [spT v' (castS (rows f (k + 1)))] w2) := by
                rw [HR.out]
                show Crew _ w [rowT 0 53 2 _ (R ++ [_]).length (flatI (R ++ [_]))] w2
                rw [flatI_append, List.length_append, HQ.out]
                exact hF
              clear hF
              go_wp2
              exact ⟨⟨k + 1, by go_num, by omega, HF2.out⟩, by simp [intOf]; omega⟩
          | true =>
            rw [hfm] at c1
            obtain ⟨l, s, z, er, _, _⟩ := (rows_ok f k).last hk0 hfm
            have HR : Hid (castS (rows f (k + 1)) = castS l ++ [((s : Int), (z : Int) + 1)]) := by
              rw [rows, HFK.out, if_pos rfl, if_pos ⟨hk0, hfm⟩, er, bump_snoc, castS_append]
              exact rfl
            have er2 : castS (rows f k) = castS l ++ [((s : Int), (z : Int))] := by rw [er, castS_append]; rfl
            have hq := rows_len f k
            rw [← castS_length, er2] at hq
            rw [er2] at HC ⊢
            have hz : (z : Int) ≤ 8192 := by omega
            generalize castS l = R at *
            obtain ⟨q, hQ⟩ : ∃ q, R.length = q := ⟨_, rfl⟩
            have hlen : (R ++ [((s : Int), (z : Int))]).length = q + 1 := by simp [hQ]
            have HC' : Hid (Crew (fun _ => False) w [rowT 0 53 2 (.slice av (q + 1) cv) (q + 1) (flatI (R ++ [((s : Int), (z : Int))]))] wr) := by rw [← hlen]; exact HC.out
            rw [hlen] at hq ⊢
            obtain ⟨g, cv', e⟩ := HC'.out.held 0 rfl (Nat.succ_pos _)
            simp only [Value.slice.injEq, true_and] at e
            obtain ⟨rfl, rfl⟩ := e
            have hat := (flatI_at (R ++ [((s : Int), (z : Int))]) q (by omega)).2
            have hgq : (R ++ [((s : Int), (z : Int))]).getD q (0, 0) = ((s : Int), (z : Int)) := by simp [List.getD_eq_getElem?_getD, ← hQ]
            rw [hgq] at hat
            obtain ⟨d0, d1⟩ := HC'.out.cell 0 rfl hat
            have hset := HC'.out.put 0 rfl (q * 2 + 1) (.int .i64 ((z : Int) + 1))
            rw [flatI_set1 _ q (by omega), hgq] at hset
            have HF2 : Hid (Crew (fun _ => False) w [spT (.slice (some ⟨g, 0, none⟩) (q + 1) cv) (castS (rows f (k + 1)))] (wr.setCell ⟨g, q * 2 + 1, none⟩ (.int .i64 ((z : Int) + 1)))) := by
              have e : (R ++ [((s : Int), (z : Int))]).set q ((s : Int), (z : Int) + 1) = R ++ [((s : Int), (z : Int) + 1)] := by rw [← hQ]; simp
              rw [e] at hset
              rw [HR.out]
              show Crew _ w [rowT 0 53 2 _ (R ++ [_]).length _] _
              rw [show (R ++ [((s : Int), (z : Int) + 1)]).length = q + 1 by simp [hQ]]
              exact hset
            clear er er2 hfm hC HC HC' hset hat hgq hlen hQ e0 hfk hk0
            go_wp2
            exact ⟨⟨k + 1, by go_num, by omega, HF2.out⟩, by simp [intOf]; omega⟩
    · have hltI : ¬ (k : Int) < n := by omega
      obtain rfl : k = n := by omega
      clear hC
      go_wp2
      go_ret
      exact ⟨_, rfl, HC.out.fresh⟩

end Go.Proofs.Ytnknojkihjpjkaa
