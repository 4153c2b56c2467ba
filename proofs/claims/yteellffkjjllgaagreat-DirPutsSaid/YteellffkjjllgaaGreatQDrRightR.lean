/-
  Whether files have no sector twice, of the program and of the document; all their spans, as the document has them. Conditions: as each theorem states them.
-/
import Derived.Test.YteellffkjjllgaaGreatQDrShown
import Derived.Test.YteellffkjjllgaaGreatQDrPutR
import Derived.Test.YteellffkjjllgaaGreatQSpNr
namespace Go.Rc7
open Go.Rc5 Go.Rc6

/-- A row of spans that can be made right. -/
def NormOk (l : List SpI) (size : Int) : Prop := ∃ N n, size = ((n : Nat) : Int) ∧ Fits l N n ∧ N.Pairwise Apart

theorem castS_inj : ∀ {M N : List Sp}, castS M = castS N → M = N
  | [], [], _ => rfl
  | [], _ :: _, h => by simp [castS] at h
  | _ :: _, [], h => by simp [castS] at h
  | a :: r, b :: q, h => by
    unfold castS at h
    rw [List.map_cons, List.map_cons, List.cons.injEq, Prod.mk.injEq] at h
    rw [castS_inj (M := r) (N := q) h.2]
    congr 1
    exact Prod.ext (by have := h.1.1; omega) (by have := h.1.2; omega)

theorem norm_bad {l : List SpI} {size : Int} (h : Bad l size) : ¬ NormOk l size := by
  rintro ⟨N, n, rfl, hf, _⟩
  rcases h with h | h | ⟨s, hs, hb⟩
  · have := hf.lo; omega
  · have := hf.hi; omega
  · rw [hf.eq] at hs
    simp only [castS, List.mem_map] at hs
    obtain ⟨t, ht, rfl⟩ := hs
    have h1 := hf.fit t ht
    have h2 := hf.some t ht
    rw [(insB_iff _ _).2 ⟨by show 1 ≤ (t.2 : Int); omega, by show 0 ≤ (t.1 : Int); omega, by show (t.1 : Int) < n; omega, by show (t.2 : Int) ≤ n - t.1; omega⟩] at hb
    cases hb

theorem norm_fits {l : List SpI} {N : List Sp} {n : Nat} (h : Fits l N n) : NormOk l n ↔ N.Pairwise Apart := by
  refine ⟨?_, fun hp => ⟨N, n, rfl, h, hp⟩⟩
  rintro ⟨M, m, hm, hf, hp⟩
  have e : castS M = castS N := by rw [← hf.eq, ← h.eq]
  rw [← castS_inj e]
  exact hp

theorem norm_perm {l l' : List SpI} {size : Int} (hp : l.Perm l') : NormOk l size → NormOk l' size := by
  rintro ⟨N, n, rfl, hf, ha⟩
  have h1 : l'.Perm (castS N) := by rw [← hf.eq]; exact hp.symm
  obtain ⟨M, rfl, hM⟩ := castS_perm h1
  exact ⟨M, n, rfl, ⟨hf.lo, hf.hi, rfl, fun s hs => hf.some s (hM.mem_iff.1 hs), fun s hs => hf.fit s (hM.mem_iff.1 hs)⟩, (apart_perm hM).2 ha⟩

/-- What the program makes right, and what the document does: the same spans in another order. -/
theorem norm_two (own used : List SpI) (size : Int) : NormOk [[(0, 2)], own, used].flatten size ↔ NormOk ((used ++ own) ++ [(0, 2)]) size := by
  have hp : ([[(0, 2)], own, used].flatten : List SpI).Perm ((used ++ own) ++ [(0, 2)]) := by
    simp only [List.flatten_cons, List.flatten_nil, List.append_nil]
    exact (List.perm_append_comm).trans (List.Perm.append_right _ List.perm_append_comm)
  exact ⟨norm_perm hp, norm_perm hp.symm⟩

theorem used_take {L : List Fl} {k : Nat} (h : k < L.length) : usedL (L.take (k + 1)) = usedL (L.take k) ++ (L.getD k default).spans := by
  unfold usedL
  rw [take_snoc L k default h, List.map_append, List.flatten_append]
  simp

theorem used_len (L : List Fl) : (usedL L).length = ((L.map (·.spans)).map List.length).sum := by unfold usedL; rw [List.length_flatten]

theorem used_bound {L : List Fl} {b : Nat} (h : ∀ f ∈ L, f.spans.length ≤ b) : (usedL L).length ≤ L.length * b := by
  induction L with
  | nil => exact Nat.zero_le _
  | cons f r ih =>
    have h1 := h f List.mem_cons_self
    have h2 := ih (fun g hg => h g (List.mem_cons_of_mem _ hg))
    unfold usedL at h2 ⊢
    rw [List.map_cons, List.flatten_cons, List.length_append, List.length_cons, Nat.add_mul]
    omega

theorem used_mem {L : List Fl} {s : SpI} (h : s ∈ usedL L) : ∃ f ∈ L, s ∈ f.spans := by
  unfold usedL at h
  obtain ⟨S, hS, hs⟩ := List.mem_flatten.1 h
  obtain ⟨f, hf, rfl⟩ := List.mem_map.1 hS
  exact ⟨f, hf, hs⟩

end Go.Rc7
namespace Go.Proofs.YteellffkjjllgaaGreat
open Go.ChangeShapes Go.WideShapes Go.ChangeAt Go.RowKit Go.Rc5 Go.Rc6 Go.Rc7 Go.Deep

/-- What Norm answers, as far as it is asked whether it errs. -/
def NormAt (l : List SpI) (size : Int) (w : World) (e : Ending) (w' : World) : Prop :=
  ∃ (v : Value) (x : Int), e = .returned (.tuple #[v, .int .i64 x]) ∧ (x = 0 ↔ NormOk l size) ∧ Below w.heap.size w w'

theorem pnorm_any (l : List SpI) (a : Option Addr) (c len : Nat) (size : Int) (w : World) (h : SpansAt w a l) (hl : l.length = len) (hlen : len ≤ 100000) (hin : ∀ s ∈ l, In64 s.1) :
    Calls Tryz.prog 25 #[.slice a len c, .int .i64 size] w (NormAt l size w) := by
  rcases bad_or_fits l size with hb | ⟨N, n, rfl, hf⟩
  · refine (pnorm_bad l a c len size w h hl hlen hb hin).mono ?_
    rintro e w' ⟨rfl, hb'⟩
    exact ⟨_, _, rfl, ⟨fun h => absurd h (by decide), fun h => absurd h (norm_bad hb)⟩, hb'⟩
  · refine (pnorm_good l N n a c len w h hl hlen hf).mono ?_
    rintro e w' (⟨rfl, hp, hb'⟩ | ⟨v, rfl, hp, hF⟩)
    · exact ⟨_, _, rfl, ⟨fun h => absurd h (by decide), fun h => absurd ((norm_fits hf).1 h) hp⟩, hb'⟩
    · exact ⟨_, _, rfl, ⟨fun _ => (norm_fits hf).2 hp, fun _ => rfl⟩, hF.bel⟩

theorem rnorm_any (l : List SpI) (a : Option Addr) (c len : Nat) (size : Int) (w : World) (h : SpansAt w a l) (hl : l.length = len) (hlen : len ≤ 100000) :
    Calls Tryz.prog 27 #[.slice a len c, .int .i64 size] w (NormAt l size w) := by
  rcases bad_or_fits l size with hb | ⟨N, n, rfl, hf⟩
  · refine (rnorm_bad l a c len size w h hl hlen hb).mono ?_
    rintro e w' ⟨rfl, hb'⟩
    exact ⟨_, _, rfl, ⟨fun h => absurd h (by decide), fun h => absurd h (norm_bad hb)⟩, hb'⟩
  · refine (rnorm_good l N n a c len w h hl hlen hf).mono ?_
    rintro e w' (⟨rfl, hp, hb'⟩ | ⟨v, rfl, hp, hF⟩)
    · exact ⟨_, _, rfl, ⟨fun h => absurd h (by decide), fun h => absurd ((norm_fits hf).1 h) hp⟩, hb'⟩
    · exact ⟨_, _, rfl, ⟨fun _ => (norm_fits hf).2 hp, fun _ => rfl⟩, hF.bel⟩

/-- One span in a row of its own. -/
theorem spans_lone {W : World} (x y : Int) : SpansAt (W.alloc (.cells #[.int .i64 x, .int .i64 y] 38)) (some ⟨W.heap.size, 0, none⟩) [(x, y)] := by
  intro i hi
  obtain rfl : i = 0 := by simp at hi; omega
  refine ⟨_, rfl, ?_, ?_⟩
  · rw [add_own, World.cell?_alloc_new]; rfl
  · rw [add_own, World.cell?_alloc_new]; rfl

/-- Three rows of spans in a row of their own. -/
theorem rows_threeS {W : World} {p q r : Option Addr} {l m n c d e : Nat} {A B C : List SpI} (hA : SpansAt W p A) (hB : SpansAt W q B) (hC : SpansAt W r C) (hl : A.length = l) (hm : B.length = m) (hn : C.length = n) :
    RowsAt (W.alloc (.cells #[.slice p l c, .slice q m d, .slice r n e] 23)) (some ⟨W.heap.size, 0, none⟩) [A, B, C] := by
  have hb := (Below.refl W.heap.size W).alloc (Nat.le_refl _) (.cells #[.slice p l c, .slice q m d, .slice r n e] 23)
  subst hl hm hn
  intro i hi
  have h3 : i = 0 ∨ i = 1 ∨ i = 2 := by simp at hi; omega
  rcases h3 with rfl | rfl | rfl
  · exact ⟨_, p, c, rfl, by rw [add_own, World.cell?_alloc_new]; rfl, SpansAt.below hA hb⟩
  · exact ⟨_, q, d, rfl, by rw [add_own, World.cell?_alloc_new]; rfl, SpansAt.below hB hb⟩
  · exact ⟨_, r, e, rfl, by rw [add_own, World.cell?_alloc_new]; rfl, SpansAt.below hC hb⟩

set_option maxRecDepth 100000 in
set_option maxHeartbeats 4000000 in
theorem UsedR_any (L : List Fl) (a : Option Addr) (n c : Nat) (w : World) (h : FilesAt w a L) (hl : L.length = n) (hn : n ≤ 1000) (hs : (usedL L).length ≤ 1000000) :
    Calls Tryz.prog 13 #[.slice a n c] w fun e w' => ∃ v, e = .returned v ∧ Fresh (spT v (usedL L)) w w' := by
  have HF := Lib.hid h
  have HL := Lib.hid hl
  have HS := Lib.hid hs
  have HC := Lib.hid ((Crew.start w).nil 38 2)
  clear h hl hs
  go_enter Tryz.func13, Tryz.ntmps13
  go_wp2
  go_loopw [3, 4] (fun v i wr => ∃ k : Nat, i = .int .i64 k ∧ k ≤ n ∧ Hid (Crew (fun _ => False) w [spT v (usedL (L.take k))] wr)) (fun _ i _ => (n - intOf i).toNat)
  case atStart => exact ⟨0, rfl, Nat.zero_le _, HC⟩
  case round =>
    obtain ⟨k, rfl, hk, HR⟩ := hrel
    clear HC
    by_cases hlt : k < n
    · have hltI : (k : Int) < n := by omega
      have hkl : k < L.length := by rw [HL.out]; exact hlt
      obtain ⟨x, rfl, _, _, p, cp, e2, hsp⟩ := HF.out k hkl
      have c2 := keeps HR.out.bel _ _ e2
      have HSP := Lib.hid (SpansAt.below hsp HR.out.bel)
      have HU := Lib.hid (used_take hkl)
      have h1 := used_len (L.take (k + 1))
      have h2 := used_len L
      have h3 : (((L.take (k + 1)).map (·.spans)).map List.length).sum ≤ ((L.map (·.spans)).map List.length).sum := by
        have h := sum_take (L.map (·.spans)) (k + 1)
        rw [List.map_take]
        exact h
      have HB : Hid ((usedL (L.take k)).length + (L.getD k default).spans.length ≤ 8796093022208) := by
        have h4 := HU.out
        have h5 := congrArg List.length h4
        rw [List.length_append] at h5
        have := HS.out
        unfold Hid
        omega
      generalize (L.getD k default).spans = S at *
      generalize usedL (L.take k) = M at *
      clear e2 hsp h1 h2 h3 hkl
      go_wp2_with (at_builtin; refine wpList_append_spans (M := M) (L := S) HR.out 0 rfl rfl (.tmp 11) (.tmp 16) rfl rfl p S.length cp rfl HSP.out rfl HB.out ?nx)
      case nx =>
        intro v' w2 hc
        rw [← HU.out] at hc
        have HC2 := Lib.hid hc
        clear hc HR
        go_wp2
        exact ⟨⟨k + 1, by go_num, by omega, HC2⟩, by simp [intOf]; omega⟩
    · obtain rfl : k = n := by omega
      have hltI : ¬ (k : Int) < k := by omega
      have hf := HR.out.fresh
      rw [List.take_of_length_le (Nat.le_of_eq HL.out)] at hf
      have HFr := Lib.hid hf
      clear hf
      go_wp2
      go_ret
      exact ⟨_, rfl, HFr.out⟩

/-- Whether files have no sector twice. -/
def RightQ (L : List Fl) (size : Int) (own : List SpI) : Prop := Dir L ∧ NormOk [[(0, 2)], own, usedL L].flatten size

theorem used_dir {L : List Fl} (hd : Dir L) : (usedL L).length ≤ 24000 := by
  have h1 := used_bound (b := 200) (fun f hf => (hd.well f hf).many)
  have := hd.many
  omega

open Classical in
set_option maxRecDepth 100000 in
set_option maxHeartbeats 4000000 in
theorem RightP_any (L : List Fl) (ko : ∀ f ∈ L, FlOk f) (a : Option Addr) (n c : Nat) (size : Int) (own : List SpI) (o : Option Addr) (m d : Nat) (w : World) (h : FilesAt w a L) (hl : L.length = n) (ho : SpansAt w o own) (hm : own.length = m) (hm2 : m ≤ 20) (hi : ∀ s ∈ own, In64 s.1) :
    Calls Tryz.prog 9 #[.slice a n c, .int .i64 size, .slice o m d] w fun e w' => e = .returned (.bool (decide (RightQ L size own))) ∧ Below w.heap.size w w' := by
  have HD := Lib.hid (directory_any L ko a n c w h hl)
  by_cases hd : Dir L
  · have hn : n ≤ 120 := by rw [← hl]; exact hd.many
    have HF := Lib.hid (fun W (hW : Below w.heap.size w W) => FilesAt.below h hW)
    have HO := Lib.hid (fun W (hW : Below w.heap.size w W) => SpansAt.below ho hW)
    have HL := Lib.hid hl
    have HM := Lib.hid hm
    have HU := Lib.hid (used_dir hd)
    have HIN : Hid (∀ s ∈ [[(0, 2)], own, usedL L].flatten, In64 s.1) := fun s hs => by
      simp only [List.flatten_cons, List.flatten_nil, List.append_nil, List.mem_append, List.mem_singleton] at hs
      rcases hs with rfl | hs | hs
      · exact ⟨by decide, by decide⟩
      · exact hi s hs
      · obtain ⟨f, hf, hs⟩ := used_mem hs
        exact ((ko f hf).spans s hs).1
    have HQ : Hid (RightQ L size own ↔ NormOk [[(0, 2)], own, usedL L].flatten size) := ⟨fun h => h.2, fun h => ⟨hd, h⟩⟩
    have hdd := HD.out
    rw [decide_eq_true hd] at hdd
    replace HD := Lib.hid hdd
    have HUL := Lib.hid (used_len L)
    clear h hl ho hm hi hd hdd
    go_enter Tryz.func9, Tryz.ntmps9
    go_wp2_with fail
    refine HD.out.mono ?_
    rintro e w1 ⟨rfl, hb1⟩
    have hb2 := (Below.refl w1.heap.size w1).alloc (Nat.le_refl _) (.cells #[.int .i64 0, .int .i64 2] 38)
    have HB1 := Lib.hid (below_trans hb1 hb2)
    have HUs := Lib.hid (Used_any L a n c _ (HF.out _ (below_trans hb1 hb2)) HL.out (by omega) (by have := HU.out; have := HUL.out; omega))
    have HHd : Hid (∀ W, Below (w1.alloc (.cells #[.int .i64 0, .int .i64 2] 38)).heap.size (w1.alloc (.cells #[.int .i64 0, .int .i64 2] 38)) W → SpansAt W (some ⟨w1.heap.size, 0, none⟩) [(0, 2)]) := fun W hW => SpansAt.below (spans_lone 0 2) hW
    clear hb1 hb2 HD
    go_wp2_with fail
    refine HUs.out.mono ?_
    rintro e w2 ⟨a2, c2, rfl, hs2, hb2⟩
    have hrows := rows_threeS (c := 1) (d := d) (e := c2) (HHd.out _ hb2) (HO.out _ (below_trans HB1.out hb2)) hs2 (rfl : ([(0, 2)] : List SpI).length = 1) HM.out rfl
    have HB2 := Lib.hid (below_trans (below_trans HB1.out hb2) ((Below.refl w2.heap.size w2).alloc (Nat.le_refl _) (.cells #[.slice (some ⟨w1.heap.size, 0, none⟩) 1 1, .slice o m d, .slice a2 (usedL L).length c2] 23)))
    have HCc := Lib.hid (ConcatS_any [[(0, 2)], own, usedL L] _ 3 3 _ hrows rfl (by decide) (by
      have := HU.out
      have := HM.out
      simp only [List.map_cons, List.map_nil, List.sum_cons, List.sum_nil, List.length_cons, List.length_nil]
      omega))
    have HFL : Hid ([[(0, 2)], own, usedL L].flatten.length ≤ 100000) := by
      have := HU.out
      have := HM.out
      unfold Hid
      simp only [List.flatten_cons, List.flatten_nil, List.append_nil, List.length_append, List.length_cons, List.length_nil]
      omega
    generalize [[(0, 2)], own, usedL L].flatten = All at *
    generalize (usedL L).length = ul at *
    clear hrows hs2 hb2 HHd HUs HF HO
    go_wp2_with fail
    refine HCc.out.mono ?_
    rintro e w3 ⟨v, rfl, hF⟩
    obtain ⟨O, ⟨ho, _⟩, hb3, _⟩ := hF
    obtain ⟨a3, c3, rfl⟩ := own_slice ho
    have hs3 := (spans_own ho).2
    have HN := Lib.hid (pnorm_any All a3 c3 All.length size w3 hs3 rfl HFL.out HIN.out)
    have HB3 := Lib.hid (below_trans HB2.out hb3)
    clear hs3 ho hb3 HCc
    go_wp2_with fail
    refine HN.out.mono ?_
    rintro e w4 ⟨v4, x, rfl, hx, hb4⟩
    have HB4 := Lib.hid (below_trans HB3.out hb4)
    have HE : Hid (decide (RightQ L size own) = (x == 0)) := by
      unfold Hid
      by_cases hx0 : x = 0
      · rw [decide_eq_true (HQ.out.2 (hx.1 hx0)), hx0]
        rfl
      · rw [decide_eq_false (fun h => hx0 (hx.2 (HQ.out.1 h)))]
        exact (beq_eq_false_iff_ne.2 hx0).symm
    clear hx hb4 HN
    go_wp2
    go_ret
    exact ⟨by rw [HE.out]; rfl, HB4.out⟩
  · have hdd := HD.out
    rw [decide_eq_false hd] at hdd
    have HD2 := Lib.hid hdd
    have HQ : Hid (decide (RightQ L size own) = false) := decide_eq_false (fun h => hd h.1)
    clear hdd HD hd h ho hi
    rw [HQ.out]
    go_enter Tryz.func9, Tryz.ntmps9
    go_wp2_with fail
    refine HD2.out.mono ?_
    rintro e w1 ⟨rfl, hb1⟩
    have HB := Lib.hid hb1
    clear hb1
    go_wp2
    go_ret
    exact ⟨rfl, HB.out⟩

open Classical in
set_option maxRecDepth 100000 in
set_option maxHeartbeats 4000000 in
theorem RightR_any (L : List Fl) (a : Option Addr) (n c : Nat) (size : Int) (own : List SpI) (o : Option Addr) (m d : Nat) (w : World) (h : FilesAt w a L) (hl : L.length = n) (hn : n ≤ 1000) (hs : ∀ f ∈ L, f.name.size ≤ 140737488355328 ∧ f.spans.length ≤ 100000) (ho : SpansAt w o own) (hm : own.length = m) (hm2 : m ≤ 20) :
    Calls Tryz.prog 10 #[.slice a n c, .int .i64 size, .slice o m d] w fun e w' => e = .returned (.bool (decide (RightQ L size own))) ∧ Below w.heap.size w w' := by
  have HD := Lib.hid (Is_any L a n c w h hl hn hs)
  by_cases hd : Dir L
  · have HF := Lib.hid (fun W (hW : Below w.heap.size w W) => FilesAt.below h hW)
    have HO := Lib.hid (fun W (hW : Below w.heap.size w W) => SpansAt.below ho hW)
    have HL := Lib.hid hl
    have HM := Lib.hid hm
    have HU := Lib.hid (used_dir hd)
    have HQ : Hid (RightQ L size own ↔ NormOk ((usedL L ++ own) ++ [(0, 2)]) size) := ⟨fun h => (norm_two own (usedL L) size).1 h.2, fun h => ⟨hd, (norm_two own (usedL L) size).2 h⟩⟩
    have hdd := HD.out
    rw [decide_eq_true hd] at hdd
    replace HD := Lib.hid hdd
    clear h hl ho hm hs hd hdd
    go_enter Tryz.func10, Tryz.ntmps10
    go_wp2_with fail
    refine HD.out.mono ?_
    rintro e w1 ⟨rfl, hb1⟩
    have HUs := Lib.hid (UsedR_any L a n c w1 (HF.out _ hb1) HL.out hn (by have := HU.out; omega))
    have HB1 := Lib.hid hb1
    clear hb1 HD
    generalize usedL L = Us at *
    go_wp2_with fail
    refine HUs.out.mono ?_
    rintro e w2 ⟨v, rfl, hF⟩
    have HC := Lib.hid ((Crew.start w1).more hF)
    have HO2 := Lib.hid (HO.out _ (below_trans HB1.out hF.bel))
    obtain ⟨av, cv, rfl⟩ := HC.out.slice 0 rfl
    have HBA : Hid (Us.length + m ≤ 8796093022208) := by unfold Hid; have := HU.out; omega
    clear hF HUs
    go_wp2_with (at_builtin; refine wpList_append_spans (M := Us) (L := own) HC.out 0 rfl rfl (.tmp 16) (.tmp 17) rfl rfl o m d rfl HO2.out HM.out HBA.out ?nx)
    case nx =>
      intro v3 w3 hc3
      obtain ⟨a3, c3, rfl⟩ := hc3.slice 0 rfl
      have HC3 := Lib.hid (hc3.below ((Below.refl w3.heap.size w3).alloc (Nat.le_refl _) (.cells #[.int .i64 0, .int .i64 2] 38)))
      have HHd := Lib.hid (spans_lone (W := w3) 0 2)
      have HBB : Hid ((Us ++ own).length + 1 ≤ 8796093022208) := by unfold Hid; have := HU.out; have := HM.out; rw [List.length_append]; omega
      have HUO : Hid ((Us ++ own).length ≤ 90000) := by unfold Hid; have := HU.out; have := HM.out; rw [List.length_append]; omega
      generalize Us ++ own = UO at *
      clear hc3 HC HO2
      go_wp2_with (at_builtin; refine wpList_append_spans (M := UO) (L := [(0, 2)]) HC3.out 0 rfl rfl (.tmp 19) (.tmp 21) rfl rfl (some ⟨w3.heap.size, 0, none⟩) 1 1 rfl HHd.out rfl HBB.out ?ny)
      case ny =>
        intro v4 w4 hc4
        have HB4 := Lib.hid (below_trans HB1.out hc4.bel)
        obtain ⟨a4, c4, rfl⟩ := hc4.slice 0 rfl
        have ho4 := hc4.own 0 rfl
        have hs4 := (spans_own (show w4.ownsRow 0 _ 2 (.slice a4 (UO ++ [(0, 2)]).length c4) (UO ++ [(0, 2)]).length (flatI (UO ++ [(0, 2)])) from ho4)).2
        have HN := Lib.hid (rnorm_any (UO ++ [(0, 2)]) a4 c4 _ size w4 hs4 rfl (by have := HUO.out; rw [List.length_append]; simp; omega))
        generalize UO ++ [(0, 2)] = All at *
        clear hs4 ho4 hc4 HC3 HHd
        go_wp2_with fail
        refine HN.out.mono ?_
        rintro e w5 ⟨v5, x, rfl, hx, hb5⟩
        have HB5 := Lib.hid (below_trans HB4.out hb5)
        have HE : Hid (decide (RightQ L size own) = (x == 0)) := by
          unfold Hid
          by_cases hx0 : x = 0
          · rw [decide_eq_true (HQ.out.2 (hx.1 hx0)), hx0]
            rfl
          · rw [decide_eq_false (fun h => hx0 (hx.2 (HQ.out.1 h)))]
            exact (beq_eq_false_iff_ne.2 hx0).symm
        clear hx hb5 HN
        go_wp2
        go_ret
        exact ⟨by rw [HE.out]; rfl, HB5.out⟩
  · have hdd := HD.out
    rw [decide_eq_false hd] at hdd
    have HD2 := Lib.hid hdd
    have HQ : Hid (decide (RightQ L size own) = false) := decide_eq_false (fun h => hd h.1)
    clear hdd HD hd h ho hs
    rw [HQ.out]
    go_enter Tryz.func10, Tryz.ntmps10
    go_wp2_with fail
    refine HD2.out.mono ?_
    rintro e w1 ⟨rfl, hb1⟩
    have HB := Lib.hid hb1
    clear hb1
    go_wp2
    go_ret
    exact ⟨rfl, HB.out⟩

end Go.Proofs.YteellffkjjllgaaGreat
