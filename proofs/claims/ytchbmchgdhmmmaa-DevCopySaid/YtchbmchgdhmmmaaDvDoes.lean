/-
  What 'does' and 'alike' of the statements make of a device and the reference's. Conditions: as each theorem states them.
-/
import Derived.Test.YtchbmchgdhmmmaaDvRefN
import Derived.Test.YtchbmchgdhmmmaaDvSmall
import Derived.Test.YtchbmchgdhmmmaaTail
namespace Go.Rc4

def shortT : ByteArray := ⟨#[115, 104, 111, 114, 116]⟩

/-- What an act makes of a device. -/
def act (r : AR) (d : DS) : DS :=
  if pk r.op 10 = 6 then d.fl.2 else if pk r.op 10 = 7 then { d with left := r.n } else if pk r.op 10 = 8 then d.pw r.ks else if pk r.op 10 = 9 then (d.wr r.at_ shortT).2 else (d.wr r.at_ (sec r.n)).2

/-- What it makes of the reference's. -/
def actR (r : AR) (d : DS) : DS :=
  if pk r.op 10 = 6 then d.fl.2 else if pk r.op 10 = 7 then d.arm r.n else if pk r.op 10 = 8 then d.pw r.ks else if pk r.op 10 = 9 then (d.wr r.at_ shortT).2 else (d.wr r.at_ (sec r.n)).2

end Go.Rc4
namespace Go.Proofs.Ytchbmchgdhmmmaa
open Go.RowKit Go.Rc4

theorem Next.turns {O : Nat → Prop} {b : Nat} {d : DS} {w w' : World} (h : Next 58 66 0 O b d w w') (ok : Ok d) (hl : d.left ≤ 9223372036854775807) : Turns (devT 0 b d) O w w' := by
  obtain ⟨O', h1, h2, h3⟩ := h
  exact ⟨O', ⟨h1, ok, hl⟩, h2, h3⟩

section
variable {U : Nat → Prop} {w0 w : World} {l : List (Thing 0)} {b : Nat} {d : DS}

theorem crew_write (h : Crew U w0 l w) (i : Nat) (hi : l[i]? = some (devT 0 b d)) (hp : d.p.length < 100000) (at_ : Int) (t : ByteArray) :
    Calls Try.prog 15 #[.pointer (some ⟨b, 0, none⟩), .int .i64 at_, .string t] w fun e w' => e = .returned (.int .i64 (d.wr at_ t).1) ∧ Crew U w0 (l.set i (devT 0 b (d.wr at_ t).2)) w' :=
  h.turn i hi fun _ ⟨hd, ok, hl⟩ _ => (Write_any hd hl hp at_ t).mono fun _ _ ⟨he, hn⟩ => ⟨he, hn.turns (ok.wr at_ t hp) (wr_left hl at_ t)⟩

theorem crew_flush (h : Crew U w0 l w) (i : Nat) (hi : l[i]? = some (devT 0 b d)) :
    Calls Try.prog 18 #[.pointer (some ⟨b, 0, none⟩)] w fun e w' => e = .returned (.int .i64 d.fl.1) ∧ Crew U w0 (l.set i (devT 0 b d.fl.2)) w' :=
  h.turn i hi fun _ ⟨hd, ok, hl⟩ _ => (Flush_any hd ok hl).mono fun _ _ ⟨he, hn⟩ => ⟨he, hn.turns ok.fl (fl_left hl)⟩

theorem crew_arm (h : Crew U w0 l w) (i : Nat) (hi : l[i]? = some (devT 0 b d)) (n : Int) (hn : n ≤ 9223372036854775807) :
    Calls Try.prog 23 #[.pointer (some ⟨b, 0, none⟩), .int .i64 n] w fun e w' => e = .returned (.tuple #[]) ∧ Crew U w0 (l.set i (devT 0 b { d with left := n })) w' := by
  refine h.turn i hi ?_
  rintro O ⟨⟨bs, cs, bf, cf, vp, hd, rfl⟩, ok, hl⟩ _
  refine (Arm_any hd n).mono ?_
  rintro e w' ⟨rfl, h1, h2⟩
  exact ⟨rfl, _, ⟨⟨_, _, _, _, _, h1, rfl⟩, ok.arm n, hn⟩, h2, fun k hk => .inl hk⟩

/-- The numbers of what is kept lie in old memory. -/
theorem crew_power (h : Crew (fun _ => False) w0 l w) (i : Nat) (hi : l[i]? = some (devT 0 b d)) (ka : Option Addr) (kn kc : Nat) (ks : List Int) (hkn : ks.length = kn)
    (hks : ∀ j, j < kn → ∃ y, ka = some y ∧ y.block < w0.heap.size ∧ w0.cell? (y.add j) = some (.int .i64 (ks.getD j 0))) :
    Calls Try.prog 19 #[.pointer (some ⟨b, 0, none⟩), .slice ka kn kc] w fun e w' => e = .returned (.tuple #[]) ∧ Crew (fun _ => False) w0 (l.set i (devT 0 b (d.pw ks))) w' := by
  refine h.turn i hi ?_
  rintro O ⟨hd, ok, hl⟩ hU
  refine (Power_dev hd ok ka kn kc ks hkn ?_).mono ?_
  · intro w' hm j hj
    obtain ⟨y, hy, hb, hc⟩ := hks j hj
    refine ⟨y, hy, ?_⟩
    have hB : Below w0.heap.size w0 w' := h.bel.trans (hm.below h.bel.size (fun k hk => (hU k hk).elim False.elim id))
    rw [← hc]
    exact hB.cell (by unfold Addr.add; split <;> exact hb)
  · rintro e w' ⟨rfl, hn⟩
    exact ⟨rfl, hn.turns (ok.pw ks) (by simp [DS.pw])⟩

theorem rcrew_power (h : Crew (fun _ => False) w0 l w) (i : Nat) (hi : l[i]? = some (refT b d)) (ka : Option Addr) (kn kc : Nat) (ks : List Int) (hkn : ks.length = kn)
    (hks : ∀ j, j < kn → ∃ y, ka = some y ∧ y.block < w0.heap.size ∧ w0.cell? (y.add j) = some (.int .i64 (ks.getD j 0))) :
    Calls Try.prog 29 #[.pointer (some ⟨b, 0, none⟩), .slice ka kn kc] w fun e w' => e = .returned (.tuple #[]) ∧ Crew (fun _ => False) w0 (l.set i (refT b (d.pw ks))) w' := by
  refine h.turn i hi ?_
  intro O hd hU
  refine RPower hd ka kn kc ks hkn ?_
  intro w' hm j hj
  obtain ⟨y, hy, hb, hc⟩ := hks j hj
  refine ⟨y, hy, ?_⟩
  have hB : Below w0.heap.size w0 w' := h.bel.trans (hm.below h.bel.size (fun k hk => (hU k hk).elim False.elim id))
  rw [← hc]
  exact hB.cell (by unfold Addr.add; split <;> exact hb)

theorem crew_clone (h : Crew U w0 l w) (i : Nat) (hi : l[i]? = some (devT 0 b d)) :
    Calls Try.prog 13 #[.pointer (some ⟨b, 0, none⟩)] w fun e w' => ∃ c, e = .returned (.pointer (some ⟨c, 0, none⟩)) ∧ Crew U w0 (l ++ [devT 0 c d]) w' := by
  obtain ⟨O, ⟨hd, ok, hl⟩, _, _⟩ := h.one hi
  refine (Clone_dev hd ok).mono ?_
  rintro e w' ⟨rfl, O', h1, h2, h3⟩
  exact ⟨_, rfl, h.more (t := devT 0 w.heap.size d) ⟨O', ⟨h1, ok, hl⟩, h2, h3⟩⟩

theorem crew_new (h : Crew U w0 l w) (n : Nat) (h0 : 0 < n) (hn : n ≤ 8192) :
    Calls Try.prog 10 #[.int .i64 n] w fun e w' => ∃ c, e = .returned (.tuple #[.pointer (some ⟨c, 0, none⟩), .int .i64 0]) ∧ Crew U w0 (l ++ [devT 0 c (DS.new n)]) w' := by
  refine (New_any n h0 hn 0 w (Nat.zero_le _)).mono ?_
  rintro e w' ⟨c, rfl, O', h1, h2, h3⟩
  exact ⟨c, rfl, h.more (t := devT 0 c (DS.new n)) ⟨O', ⟨h1, Ok.new n h0 hn, by simp [DS.new]⟩, h2, h3⟩⟩

theorem rcrew_new (h : Crew U w0 l w) (n : Nat) (h0 : 0 < n) (hn : n ≤ 8192) :
    Calls Try.prog 11 #[.int .i64 n] w fun e w' => ∃ c, e = .returned (.tuple #[.pointer (some ⟨c, 0, none⟩), .int .i64 0]) ∧ Crew U w0 (l ++ [refT c (DS.new n)]) w' := by
  refine (rnew_any n h0 hn w).mono ?_
  rintro e w' ⟨c, rfl, hf⟩
  exact ⟨c, rfl, h.more hf⟩

end

/-- An act, as it is handed to 'does'. -/
def actV (r : AR) : Value := .agg #[.int .i64 r.op, .int .i64 r.at_, .int .i64 r.n, .slice r.ka r.kn r.kc]

/-- What of an act must hold: its numbers are in range, and what is kept lies in old memory. -/
structure ActOk (w0 : World) (r : AR) : Prop where
  i0 : In64 r.op
  i1 : In64 r.at_
  i2 : In64 r.n
  len : r.ks.length = r.kn
  keep : ∀ j, j < r.kn → ∃ y, r.ka = some y ∧ y.block < w0.heap.size ∧ w0.cell? (y.add j) = some (.int .i64 (r.ks.getD j 0))

set_option maxHeartbeats 4000000 in
theorem does_any {w0 w : World} {l : List (Thing 0)} {b c : Nat} {d m : DS} (h : Crew (fun _ => False) w0 l w) (i j : Nat) (hij : i ≠ j) (hi : l[i]? = some (devT 0 b d)) (hj : l[j]? = some (refT c m)) (hp : d.p.length < 100000) (hq : m.p.length < 100000) (r : AR) (hr : ActOk w0 r) :
    Calls Try.prog 12 #[.pointer (some ⟨b, 0, none⟩), .pointer (some ⟨c, 0, none⟩), actV r] w fun e w' => (∃ f : Bool, e = .returned (.bool f)) ∧ Crew (fun _ => False) w0 ((l.set i (devT 0 b (act r d))).set j (refT c (actR r m))) w' := by
  have hil : i < l.length := (List.getElem?_eq_some_iff.1 hi).1
  have hjl : j < l.length := (List.getElem?_eq_some_iff.1 hj).1
  have H1 := h.block #[.int .i64 r.op, .int .i64 r.at_, .int .i64 r.n, .slice r.ka r.kn r.kc] 35
  obtain ⟨L, hL⟩ : ∃ L, L = l ++ [blkT w.heap.size #[.int .i64 r.op, .int .i64 r.at_, .int .i64 r.n, .slice r.ka r.kn r.kc] 35] := ⟨_, rfl⟩
  rw [← hL] at H1
  have Hi : L[i]? = some (devT 0 b d) := by rw [hL, List.getElem?_append_left hil]; exact hi
  have Hj : L[j]? = some (refT c m) := by rw [hL, List.getElem?_append_left hjl]; exact hj
  have HG : L[l.length]? = some (blkT w.heap.size #[.int .i64 r.op, .int .i64 r.at_, .int .i64 r.n, .slice r.ka r.kn r.kc] 35) := by rw [hL]; simp
  have fin : ∀ (t t' : Thing 0) (w' : World), Crew (fun _ => False) w0 ((L.set i t).set j t') w' → Crew (fun _ => False) w0 ((l.set i t).set j t') w' := by
    intro t t' w' hc
    rw [hL, List.set_append_left _ _ hil, List.set_append_left _ _ (by simpa using hjl)] at hc
    exact hc.first
  have FIN := Lib.hid fin
  have HR := Lib.hid hr
  have HPO := Lib.hid (pick_lit r.op hr.i0 10 10 rfl (by omega) (by omega))
  have HC := Lib.hid H1
  have HHi := Lib.hid Hi
  have HHj := Lib.hid Hj
  have HHG := Lib.hid HG
  have hjs : ∀ t, (L.set i t)[j]? = some (refT c m) := fun t => by rw [List.getElem?_set_ne hij]; exact Hj
  have HJS := Lib.hid hjs
  have hgs : ∀ t, (L.set i t)[l.length]? = some (blkT w.heap.size #[.int .i64 r.op, .int .i64 r.at_, .int .i64 r.n, .slice r.ka r.kn r.kc] 35) := fun t => by rw [List.getElem?_set_ne (by omega)]; exact HG
  have HGS := Lib.hid hgs
  have HP := Lib.hid hp
  have HQ := Lib.hid hq
  clear fin hr H1 Hi Hj HG hjs hgs hi hj h hL hp hq
  have hgs2 : ∀ t t', ((L.set i t).set j t')[l.length]? = some (blkT w.heap.size #[.int .i64 r.op, .int .i64 r.at_, .int .i64 r.n, .slice r.ka r.kn r.kc] 35) := fun t t' => by rw [List.getElem?_set_ne (by omega)]; exact HGS.out t
  have HGS2 := Lib.hid hgs2
  clear hgs2
  have c0 := (HC.out.at _ HHG.out (j := 0) rfl).1
  have c1 := (HC.out.at _ HHG.out (j := 1) rfl).1
  have c2 := (HC.out.at _ HHG.out (j := 2) rfl).1
  have c3 := (HC.out.at _ HHG.out (j := 3) rfl).1
  have hm := Lib.hid HR.out.i2.2
  unfold act actR actV
  generalize pk r.op 10 = po at *
  by_cases h6 : po = 6
  · subst h6
    rw [if_pos rfl, if_pos rfl]
    go_enter Try.func12, Try.ntmps12
    go_wp2_with fail
    refine (HPO.out _).mono ?_
    rintro e w1 ⟨rfl, rfl⟩
    go_wp2_with fail
    refine (crew_flush HC.out i HHi.out).mono ?_
    rintro e w2 ⟨rfl, h2⟩
    have H2 := Lib.hid h2
    clear h2
    go_wp2_with fail
    refine (H2.out.turn j (HJS.out _) (fun O ho _ => RFlush ho)).mono ?_
    rintro e w3 ⟨rfl, h3⟩
    have H3 := Lib.hid h3
    clear h3
    go_wp2
    go_ret
    exact ⟨⟨_, rfl⟩, FIN.out _ _ _ H3.out⟩
  · rw [if_neg h6, if_neg h6]
    have h6I : ((po : Int) == 6) = false := by simp; omega
    clear h6
    by_cases h7 : po = 7
    · subst h7
      rw [if_pos rfl, if_pos rfl]
      go_enter Try.func12, Try.ntmps12
      go_wp2_with fail
      refine (HPO.out _).mono ?_
      rintro e w1 ⟨rfl, rfl⟩
      go_wp2_with fail
      refine (crew_arm HC.out i HHi.out r.n hm.out).mono ?_
      rintro e w2 ⟨rfl, h2⟩
      have H2 := Lib.hid h2
      have e2 := (h2.at _ (HGS.out _) (j := 2) rfl).1
      clear h2
      go_wp2_with fail
      refine (H2.out.turn j (HJS.out _) (fun O ho _ => RArm ho r.n hm.out)).mono ?_
      rintro e w3 ⟨rfl, h3⟩
      have H3 := Lib.hid h3
      clear h3
      go_wp2
      go_ret
      exact ⟨⟨_, rfl⟩, FIN.out _ _ _ H3.out⟩
    · rw [if_neg h7, if_neg h7]
      have h7I : ((po : Int) == 7) = false := by simp; omega
      clear h7
      by_cases h8 : po = 8
      · subst h8
        rw [if_pos rfl, if_pos rfl]
        go_enter Try.func12, Try.ntmps12
        go_wp2_with fail
        refine (HPO.out _).mono ?_
        rintro e w1 ⟨rfl, rfl⟩
        go_wp2_with fail
        refine (crew_power HC.out i HHi.out r.ka r.kn r.kc r.ks HR.out.len HR.out.keep).mono ?_
        rintro e w2 ⟨rfl, h2⟩
        have H2 := Lib.hid h2
        have e2 := (h2.at _ (HGS.out _) (j := 3) rfl).1
        clear h2
        go_wp2_with fail
        refine (rcrew_power H2.out j (HJS.out _) r.ka r.kn r.kc r.ks HR.out.len HR.out.keep).mono ?_
        rintro e w3 ⟨rfl, h3⟩
        have H3 := Lib.hid h3
        clear h3
        go_wp2
        go_ret
        exact ⟨⟨_, rfl⟩, FIN.out _ _ _ H3.out⟩
      · rw [if_neg h8, if_neg h8]
        have h8I : ((po : Int) == 8) = false := by simp; omega
        clear h8
        by_cases h9 : po = 9
        · subst h9
          rw [if_pos rfl, if_pos rfl]
          go_enter Try.func12, Try.ntmps12
          go_wp2_with fail
          refine (HPO.out _).mono ?_
          rintro e w1 ⟨rfl, rfl⟩
          go_wp2_with fail
          go_region_held3 (fun W => W.cell? ⟨w.heap.size, 1, none⟩ = some (.int .i64 r.at_))
            (first | go_keep | exact (HC6.out.at _ (HGS2.out _ _) (j := 1) rfl).1 | exact (HC5.out.at _ (HGS.out _) (j := 1) rfl).1)
            (first
              | (go_at_call 15; refine (crew_write (HC.out.below (Below.refl _ _).drew) i HHi.out HP.out r.at_ shortT).mono ?_; rintro e w5 ⟨rfl, h5⟩; have HC5 := Lib.hid h5; clear h5)
              | (go_at_call 30; refine (HC5.out.turn j (HJS.out _) (fun O ho _ => RWrite ho HQ.out r.at_ shortT)).mono ?_; rintro e w6 ⟨rfl, h6⟩; have HC6 := Lib.hid h6; clear h6))
          go_wp2
          go_ret
          exact ⟨⟨_, rfl⟩, FIN.out _ _ _ HC6.out⟩
        · rw [if_neg h9, if_neg h9]
          have h9I : ((po : Int) == 9) = false := by simp; omega
          clear h9
          have HSE := Lib.hid (sector_any r.n)
          generalize sec r.n = t at *
          go_enter Try.func12, Try.ntmps12
          go_wp2_with fail
          refine (HPO.out _).mono ?_
          rintro e w1 ⟨rfl, rfl⟩
          go_wp2_with fail
          go_region_held3 (fun W => W.cell? ⟨w.heap.size, 1, none⟩ = some (.int .i64 r.at_) ∧ W.cell? ⟨w.heap.size, 2, none⟩ = some (.int .i64 r.n))
            (first | go_keep | exact ⟨(HC7.out.at _ (HGS2.out _ _) (j := 1) rfl).1, (HC7.out.at _ (HGS2.out _ _) (j := 2) rfl).1⟩ | exact ⟨(HC6.out.at _ (HGS.out _) (j := 1) rfl).1, (HC6.out.at _ (HGS.out _) (j := 2) rfl).1⟩ | exact ⟨(HC5.out.at _ (HGS.out _) (j := 1) rfl).1, (HC5.out.at _ (HGS.out _) (j := 2) rfl).1⟩ | exact ⟨(HC4.out.at _ HHG.out (j := 1) rfl).1, (HC4.out.at _ HHG.out (j := 2) rfl).1⟩)
            (first
              | (go_at_call 15; refine (crew_write HC4.out i HHi.out HP.out r.at_ t).mono ?_; rintro e w5 ⟨rfl, h5⟩; have HC5 := Lib.hid h5; clear h5)
              | (go_at_call 30; refine (HC6.out.turn j (HJS.out _) (fun O ho _ => RWrite ho HQ.out r.at_ t)).mono ?_; rintro e w7 ⟨rfl, h7⟩; have HC7 := Lib.hid h7; clear h7)
              | (go_at_call 17; refine (HSE.out _).mono ?_; rintro e w6 ⟨rfl, h6⟩; have HC6 := Lib.hid (HC5.out.below h6); clear h6)
              | (go_at_call 17; refine (HSE.out _).mono ?_; rintro e w4 ⟨rfl, h4⟩; have HC4 := Lib.hid ((HC.out.below (Below.refl _ _).drew).below h4); clear h4))
          go_wp2
          go_ret
          exact ⟨⟨_, rfl⟩, FIN.out _ _ _ HC7.out⟩

end Go.Proofs.Ytchbmchgdhmmmaa
