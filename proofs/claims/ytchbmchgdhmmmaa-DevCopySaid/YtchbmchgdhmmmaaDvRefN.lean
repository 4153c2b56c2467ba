/-
  The reference's device: what New makes. Conditions: as each theorem states them.
-/
import Derived.Test.YtchbmchgdhmmmaaDvRefC
import Derived.Deep.RegionHeld3
namespace Go.Proofs.Ytchbmchgdhmmmaa
open Go.RowKit Go.Rc4

theorem step_append_crew {P : Program} {U : Nat → Prop} {w0 w : World} {l : List (Thing 0)} {e z n : Nat} {xs : List Value} {ops : Array Oper} {o : Oper} {a : Act} {K : Act → World → Prop} {Q : Exit → Act → World → Prop} {E : Prop} (h : Crew U w0 l w) (i : Nat) {v : Value} (hi : l[i]? = some (rowT 0 e z v n xs)) (hgd : o.guard = none) (s x : Operand) (t : TypeId)
    (ho : o.op = .call { callee := .builtin .append, args := #[s, x], argTypes := #[t, t] }) (zv : Value) (bytes : Nat) (ht : P.underlying t = some (.slice e)) (hinfo : (P.info? e).map (fun i => (i.zero, i.size, i.bytes)) = some (some zv, z, bytes)) (hzs : zv.cells.size = z) (hsz : 0 < z)
    (hs : a.eval s = v) (ad : Addr) (m c : Nat) (news : List Value) (hx : a.eval x = .slice (some ad) m c) (hl : news.length = m * z) (hnews : ∀ j u, news[j]? = some u → w.cell? (ad.add j) = some u) (h1 : ∀ u ∈ news, u.oneCell' = true)
    (h63 : n + m ≤ maxLen) (hbytes : (n + m) * bytes ≤ 140737488355328)
    (hK : ∀ v' w', Crew U w0 (l.set i (rowT 0 e z v' (n + m) (xs ++ news))) w' → K (a.put o.dst v') w') : if Region.wanted o (yielded ops a.tmps) = true then Oper.wp P o a w K Q else E := by
  obtain ⟨v', w', hr, h2⟩ := run_append_crew (P := P) h i hi t o.type zv bytes ht hinfo hzs hsz ad m c news hl hnews h1 h63 hbytes
  rw [if_pos (by simp [Region.wanted, hgd])]
  unfold Oper.wp
  simp [execOp, ho, resolve, invoke, builtin, hs, hx, hr, Result.andThen]
  exact hK v' w' h2

theorem news_one (w : World) (v : Value) (t : Nat) : ∀ j u, [v][j]? = some u → (w.alloc (.cells #[v] t)).cell? ((⟨w.heap.size, 0, none⟩ : Addr).add j) = some u := by
  intro j u hu
  have hj : j = 0 := by
    cases j with
    | zero => rfl
    | succ j => simp at hu
  subst hj
  simp at hu
  subst hu
  exact Lib.cell_of_heap (heap_alloc_new w _) 0

set_option maxHeartbeats 1000000 in
theorem blank_any (w : World) : Calls Try.prog 26 #[] w fun e w' => e = .returned (.string nought) ∧ Below w.heap.size w w' := by
  have hmk : ∀ W, (Instr.makeSlice 51 (.int .i64 64) (.int .i64 64)).run Try.prog W = .ok (.slice (some ⟨W.heap.size, 0, none⟩) 64 64) (W.alloc (.cells (List.replicate 64 (.int .u8 0)).toArray 5)) := fun W => make_row (t := 51) (e := 5) (z := .int .u8 0) (bytes := 1) Try.underlying51 (by kernel_rfl) rfl 64 (by omega) (by omega) W
  have hcv := (BRow.made w 64).back 64 64 (by rw [List.length_replicate])
  rw [show ByteArray.mk (List.replicate 64 (0 : UInt8)).toArray = nought from rfl] at hcv
  generalize (List.replicate 64 (Value.int .u8 0)).toArray = C at hmk hcv
  go_enter Try.func26, Try.ntmps26
  go_wp2
  go_ret
  exact ⟨rfl, (Below.refl _ _).alloc (Nat.le_refl _) _⟩

/-- The parts of a device that is made: the block, and the row of sectors. -/
abbrev made (b : Nat) (v : Value) (k : Nat) : List (Thing 0) :=
  [blkT b #[v, .slice none 0 0, .slice none 0 0, .int .i64 (-1), .bool false] 61, rowT 0 9 1 v k (strs (List.replicate k nought))]

set_option maxHeartbeats 4000000 in
theorem rnew_any (n : Nat) (h0 : 0 < n) (hn : n ≤ 8192) (w : World) :
    Calls Try.prog 11 #[.int .i64 n] w fun e w' => ∃ b, e = .returned (.tuple #[.pointer (some ⟨b, 0, none⟩), .int .i64 0]) ∧ Fresh (refT b (DS.new n)) w w' := by
  have HB := Lib.hid blank_any
  have hI1 : ¬ (n : Int) < 1 := by omega
  have hI2 : ¬ (8192 : Int) < n := by omega
  have H0 := Lib.hid (((Crew.start w).block #[.slice none 0 0, .slice none 0 0, .slice none 0 0, .int .i64 (-1), .bool false] 61).nil 9 1)
  go_enter Try.func11, Try.ntmps11
  go_wp2
  generalize hb : w.heap.size = b at H0 ⊢
  go_loopw [5] (fun i wr => ∃ (k : Nat) (v : Value), i = .int .i64 k ∧ k ≤ n ∧ Crew (fun _ => False) w (made b v k) wr) (fun i _ => (n - intOf i).toNat)
  case atStart => exact ⟨0, _, rfl, Nat.zero_le _, H0.out⟩
  case round =>
    obtain ⟨k, v, rfl, hk, hC⟩ := hrel
    obtain ⟨av, cv, rfl⟩ := hC.slice 1 rfl
    have HC := Lib.hid hC
    have c0 := (hC.at 0 rfl (j := 0) rfl).1
    have lb := hC.lt 0 rfl
    by_cases hlt : k < n
    · have hltI : (k : Int) < n := by omega
      clear hC
      go_wp2
      go_region_law
        (first
          | (go_simp; go_at_call 26; refine (HB.out _).mono ?_; rintro e w5 ⟨rfl, hb5⟩; have HC5 := Lib.hid ((HC.out.below (Below.refl _ wr).drew).below hb5); have hc5 := (HC5.out.at 0 rfl (j := 0) rfl).1; have lb5 := HC5.out.lt 0 rfl; clear hb5)
          | (refine step_append_crew (HC5.out.below ((Below.refl _ w5).alloc (Nat.le_refl _) (.cells #[.string nought] 9))) 1 rfl (by rfl) (.tmp 23) (.tmp 25) 54 (by rfl) (.string ⟨#[]⟩) 16 Try.underlying54 infoS rfl (by decide) (by simp [Act.eval]) ⟨w5.heap.size, 0, none⟩ 1 1 [.string nought] (by simp [Act.eval]) rfl (news_one w5 _ _) (by simp [Value.oneCell']) (by unfold maxLen; omega) (by omega) ?_; intro v' w7 hF; obtain ⟨a7, c7, rfl⟩ := hF.slice 1 rfl; have HC7 := Lib.hid hF; obtain ⟨x0, y0⟩ := (hF.at 0 rfl (j := 0) rfl); clear hF))
      all_goals
        have HF : Hid (Crew (fun _ => False) w (made b (.slice a7 (k + 1) c7) (k + 1)) (w7.setCell ⟨b, 0, none⟩ (.slice a7 (k + 1) c7))) := by
          have h7 := HC7.out
          have e : strs (List.replicate k nought) ++ [Value.string nought] = strs (List.replicate (k + 1) nought) := by
            rw [List.replicate_succ']
            simp [strs]
          rw [e] at h7
          exact h7.set 0 rfl 0 (.slice a7 (k + 1) c7)
        clear HC7 HC5 x0 y0 hc5
        go_wp2
        exact ⟨⟨k + 1, _, by go_num, by omega, HF.out⟩, by simp [intOf]; omega⟩
    · have hltI : ¬ (k : Int) < n := by omega
      obtain rfl : k = n := by omega
      obtain ⟨g, cv', e⟩ := hC.held 1 rfl h0
      simp only [Value.slice.injEq, true_and] at e
      obtain ⟨rfl, rfl⟩ := e
      have HE := Lib.hid (HC.out.empty 9 1)
      clear hC
      go_wp2_with (at_builtin; refine wpList_append_crew HE.out 2 rfl rfl (.tmp 30) (.tmp 34) 54 rfl (.string ⟨#[]⟩) 16 Try.underlying54 infoS rfl (by decide) rfl ⟨g, 0, none⟩ k cv (strs (List.replicate k nought)) rfl (by rw [strs_length, List.length_replicate]; omega) ?c1 (strs_one _) ?b1 ?b2 ?next)
      case c1 =>
        intro j u hu
        exact (HE.out.cell 1 rfl hu).1
      case b1 => unfold maxLen; omega
      case b2 => omega
      case next =>
        intro v' w2 hF
        obtain ⟨g', c', rfl⟩ := hF.held 2 rfl h0
        obtain ⟨y1, x1⟩ := hF.at 0 rfl (j := 1) rfl
        have HF2 := Lib.hid ((hF.set 0 rfl 1 (.slice (some ⟨g', 0, none⟩) k c')).nil 81 2)
        clear hF
        go_wp2
        go_ret2
        refine ⟨b, rfl, .and ⟨Ok.new k h0 hn, by simp [DS.new]⟩ (.ex (f := fun v : Value × Value × Value => groupT (parts b (DS.new k) v.1 v.2.1 v.2.2)) (.slice (some ⟨g, 0, none⟩) k cv, .slice (some ⟨g', 0, none⟩) k c', .slice none 0 0) (groupT_new ?_))⟩
        show Crew _ w [_, rowT 0 9 1 _ (List.replicate k nought).length _, rowT 0 9 1 _ (List.replicate k nought).length _, _] _
        rw [List.length_replicate]
        exact HF2.out

theorem RFlush {O : Nat → Prop} {b : Nat} {d : DS} {w : World} (h : (refT b d).holds O w) :
    Calls Try.prog 27 #[.pointer (some ⟨b, 0, none⟩)] w fun e w' => e = .returned (.int .i64 d.fl.1) ∧ Turns (refT b d.fl.2) O w w' := by
  obtain ⟨⟨ok, hl⟩, vs, vf, vp, hc⟩ := refT_open h
  have ok2 := ok.fl
  have l2 := fl_left hl
  cases hd : d.down with
  | true =>
    rw [fl_off hd]
    refine (rflush_off hc hd).mono ?_
    rintro e w' ⟨rfl, rfl⟩
    exact ⟨rfl, Turns.same h⟩
  | false =>
    by_cases h0 : d.left = 0
    · rw [fl_dead hd h0] at ok2 ⊢
      refine (rflush_dead hc hd h0).mono ?_
      rintro e w' ⟨rfl, h1⟩
      exact ⟨rfl, refT_shut ok2 hl h1⟩
    · rw [fl_on hd h0] at ok2 l2 ⊢
      refine (rflush_done hc hd h0 hl ok.pos ok.small).mono ?_
      rintro e w' ⟨rfl, vf', vp', h1⟩
      refine ⟨rfl, refT_shut (vs := vs) (vf := vf') (vp := vp') ok2 l2 ?_⟩
      show Crew O w (parts b ⟨d.s, puts d.f d.p, [], d.tick, d.down⟩ vs vf' vp') w'
      rw [← ok.now]
      exact h1

theorem RArm {O : Nat → Prop} {b : Nat} {d : DS} {w : World} (h : (refT b d).holds O w) (n : Int) (hn : n ≤ 9223372036854775807) :
    Calls Try.prog 28 #[.pointer (some ⟨b, 0, none⟩), .int .i64 n] w fun e w' => e = .returned (.tuple #[]) ∧ Turns (refT b (d.arm n)) O w w' := by
  obtain ⟨⟨ok, hl⟩, vs, vf, vp, hc⟩ := refT_open h
  refine (rarm_any hc n).mono ?_
  rintro e w' ⟨rfl, h1⟩
  exact ⟨rfl, refT_shut (ok.arm _) (by simp only [DS.arm]; omega) h1⟩

theorem RPower {O : Nat → Prop} {b : Nat} {d : DS} {w : World} (h : (refT b d).holds O w) (ka : Option Addr) (kn kc : Nat) (ks : List Int) (hkn : ks.length = kn)
    (hks : ∀ w', Moved O w w' → ∀ i, i < kn → ∃ x, ka = some x ∧ w'.cell? (x.add i) = some (.int .i64 (ks.getD i 0))) :
    Calls Try.prog 29 #[.pointer (some ⟨b, 0, none⟩), .slice ka kn kc] w fun e w' => e = .returned (.tuple #[]) ∧ Turns (refT b (d.pw ks)) O w w' := by
  obtain ⟨⟨ok, hl⟩, vs, vf, vp, hc⟩ := refT_open h
  refine (rpower_any hc ka kn kc ks hkn hks ok.few ok.pos ok.small ok.len (fun k hk => ok.rd_lt hk)).mono ?_
  rintro e w' ⟨rfl, vs', vp', h1⟩
  exact ⟨rfl, refT_shut (ok.pw ks) (by simp [DS.pw]) h1⟩

theorem RRead {O : Nat → Prop} {b : Nat} {d : DS} {w : World} (h : (refT b d).holds O w) (at_ : Int) :
    Calls Try.prog 34 #[.pointer (some ⟨b, 0, none⟩), .int .i64 at_] w fun e w' => e = .returned (.tuple #[.string (d.rd at_).1, .int .i64 (d.rd at_).2]) ∧ w = w' := by
  obtain ⟨⟨ok, hl⟩, vs, vf, vp, hc⟩ := refT_open h
  exact rread_any hc at_ ok.pos

end Go.Proofs.Ytchbmchgdhmmmaa
