/-
  What the program's Norm and Rest answer. Conditions: as each theorem states them.
-/
import Derived.Test.YteellffkjjllgaaGreatQSpOrd1
namespace Go.Proofs.YteellffkjjllgaaGreat
open Go.RowKit Go.Rc5

theorem eg37 : ∀ args w, (callFunc 71 args).run Tryz.prog w = .ok (.enter 71 args) w := enters_of Tryz.func71 (by kernel_rfl) rfl

set_option maxHeartbeats 2000000 in
theorem ordered_size (a : Option Addr) (c len : Nat) (size : Int) (h : size < 1 ∨ 8192 < size) (w : World) :
    Calls Tryz.prog 43 #[.slice a len c, .int .i64 size] w fun e w' => e = .returned (.tuple #[.slice none 0 0, .int .i64 11]) ∧ Below w.heap.size w w' := by
  have HH := Lib.hid h
  have H0 := (((Crew.start w).block #[.int .i64 size] 3).block #[.slice none 0 0] 23).block #[.int .i64 11] 28
  simp only [World.size_alloc] at H0
  have cr := (H0.at 1 rfl (j := 0) rfl).1
  have cs := (H0.at 2 rfl (j := 0) rfl).1
  have HB := Lib.hid H0.bel
  clear h H0
  go_enter Tryz.func43, Tryz.ntmps43
  go_wp2_with (go_at_call 64; refine (sized_no size HH.out _).mono ?_; rintro e w1 ⟨rfl, rfl⟩)
  refine bodyPost_ret (results_cell2 rfl _ _ _ _ _ _ rfl rfl Tryz.isAgg23 Tryz.isAgg28 cr cs) rfl ?_
  exact ⟨rfl, HB.out⟩

theorem ordered_bad (L : List SpI) (a : Option Addr) (c len : Nat) (size : Int) (w : World) (h : SpansAt w a L) (hl : L.length = len) (hlen : len ≤ 100000) (hb : Bad L size) (hin : ∀ s ∈ L, In64 s.1) :
    Calls Tryz.prog 43 #[.slice a len c, .int .i64 size] w fun e w' => e = .returned (.tuple #[.slice none 0 0, .int .i64 11]) ∧ Below w.heap.size w w' := by
  by_cases h1 : size < 1
  · exact ordered_size a c len size (.inl h1) w
  · by_cases h2 : 8192 < size
    · exact ordered_size a c len size (.inr h2) w
    · obtain ⟨s, hs, hf⟩ : ∃ s ∈ L, insB s size = false := by
        rcases hb with h | h | h
        · exact absurd h h1
        · exact absurd h h2
        · exact h
      refine (ordered_any L a c len size (by omega) (by omega) w h hl hlen hin).mono ?_
      rintro e w' (⟨he, _, hb⟩ | ⟨_, hi, _⟩ | ⟨_, _, _, hi, _⟩)
      · exact ⟨he, hb⟩
      · rw [hi s hs] at hf; cases hf
      · rw [hi s hs] at hf; cases hf

def OrdG (N : List Sp) (w : World) (e : Ending) (w' : World) : Prop :=
  (e = .returned (.tuple #[.slice none 0 0, .int .i64 5]) ∧ ¬ N.Pairwise Apart ∧ Below w.heap.size w w') ∨
  ∃ v M, e = .returned (.tuple #[v, .int .i64 0]) ∧ M.Perm N ∧ InRow 0 M ∧ Fresh (spT v (castS M)) w w'

theorem ordered_good (L : List SpI) (N : List Sp) (n : Nat) (a : Option Addr) (c len : Nat) (w : World) (h : SpansAt w a L) (hl : L.length = len) (hlen : len ≤ 100000) (hg : Fits L N n) :
    Calls Tryz.prog 43 #[.slice a len c, .int .i64 n] w (OrdG N w) := by
  have hlo := hg.lo
  have hhi := hg.hi
  refine (ordered_any L a c len n (by omega) (by omega) w h hl hlen (fun s hs => ?_)).mono ?_
  · rw [hg.eq] at hs
    simp only [castS, List.mem_map] at hs
    obtain ⟨t, ht, rfl⟩ := hs
    have := hg.fit t ht
    exact ⟨by show -9223372036854775808 ≤ (t.1 : Int); omega, by show (t.1 : Int) ≤ 9223372036854775807; omega⟩
  · have asc : ∀ {M : List Sp}, Asc (castS M) → M.Pairwise fun s t => s.1 ≤ t.1 := fun {M} h => by
      unfold Asc castS at h
      rw [List.pairwise_map] at h
      exact h.imp (fun h => by have : (_ : Int) ≤ _ := h; exact Int.ofNat_le.1 this)
    rintro e w' (⟨_, ⟨s, hs, hf⟩, _⟩ | ⟨he, _, ⟨M', hp, ha, hr⟩, hb⟩ | ⟨v, M', he, _, hp, ha, hr, hF⟩)
    · exfalso
      rw [hg.eq] at hs
      simp only [castS, List.mem_map] at hs
      obtain ⟨t, ht, rfl⟩ := hs
      have h1 := hg.fit t ht
      have h2 := hg.some t ht
      rw [(insB_iff _ _).2 ⟨by show 1 ≤ (t.2 : Int); omega, by show 0 ≤ (t.1 : Int); omega, by show (t.1 : Int) < n; omega, by show (t.2 : Int) ≤ n - t.1; omega⟩] at hf
      cases hf
    · refine .inl ⟨he, fun hap => ?_, hb⟩
      rw [hg.eq] at hp
      obtain ⟨M, rfl, hp'⟩ := castS_perm hp
      have hin := inRow_of (asc ha) (fun s hs => hg.some s (hp'.mem_iff.1 hs)) ((apart_perm hp').2 hap) 0 (fun s _ => Nat.zero_le _)
      rw [(rowI_cast M).2 hin] at hr
      cases hr
    · rw [hg.eq] at hp
      obtain ⟨M, rfl, hp'⟩ := castS_perm hp
      exact .inr ⟨v, M, he, hp', (rowI_cast M).1 hr, hF⟩

set_option maxHeartbeats 2000000 in
theorem pnorm_bad (L : List SpI) (a : Option Addr) (c len : Nat) (size : Int) (w : World) (h : SpansAt w a L) (hl : L.length = len) (hlen : len ≤ 100000) (hb : Bad L size) (hin : ∀ s ∈ L, In64 s.1) :
    Calls Tryz.prog 25 #[.slice a len c, .int .i64 size] w fun e w' => e = .returned (.tuple #[.slice none 0 0, .int .i64 11]) ∧ Below w.heap.size w w' := by
  have HM := Lib.hid (ordered_bad L a c len size w h hl hlen hb hin)
  clear h hb hl hin
  go_enter Tryz.func25, Tryz.ntmps25
  go_wp2_with (go_at_call 43; refine HM.out.mono ?_; rintro e w1 ⟨rfl, hb⟩)
  go_ret2
  exact ⟨rfl, hb⟩

section
variable (M : List Sp) (n : Nat) (hn : n ≤ 8192) (hr : InRow 0 M) (hs : ∀ s ∈ M, 1 ≤ s.2) (hf : ∀ s ∈ M, s.1 + s.2 ≤ n) (hlen : M.length ≤ 100000) (av : Option Addr) (cv k : Nat) (w : World) (hsp : SpansAt w av (castS M)) (hk : M.length = k)
include hn hf hlen hsp hk

theorem one_gives : ∃ R, Gives Tryz.prog 71 #[.pointer (some ⟨w.heap.size + 1, 0, none⟩), .pointer (some ⟨w.heap.size + 1 + 1, 0, none⟩)] encS (castS (gapsF 0 n M)) R
    (((w.alloc (.cells #[.slice av k cv] 23)).alloc (.cells #[.func (.func 72) #[] #[.pointer (some ⟨w.heap.size, 0, none⟩)]] 83)).alloc (.cells #[.int .i64 n] 3)) := by
  have hb1 : Below w.heap.size w (w.alloc (.cells #[.slice av k cv] 23)) := (Below.refl _ w).alloc (Nat.le_refl _) _
  have G1 := values_gives (castS M) av cv k w.heap.size (w.alloc (.cells #[.slice av k cv] 23)) (World.alloc_heap_new w _) w.heap.size hb1.size (spans_reads hsp hb1) (by rw [castS_length, hk]) (by omega)
  have hb2 : Below (w.alloc (.cells #[.slice av k cv] 23)).heap.size (w.alloc (.cells #[.slice av k cv] 23)) (((w.alloc (.cells #[.slice av k cv] 23)).alloc (.cells #[.func (.func 72) #[] #[.pointer (some ⟨w.heap.size, 0, none⟩)]] 83)).alloc (.cells #[.int .i64 n] 3)) := ((Below.refl _ _).alloc (Nat.le_refl _) _).alloc (by simp) _
  have e1 := heap_alloc2_new (w.alloc (.cells #[.slice av k cv] 23)) (.cells #[.func (.func 72) #[] #[.pointer (some ⟨w.heap.size, 0, none⟩)]] 83) (.cells #[.int .i64 n] 3)
  have e2 : (((w.alloc (.cells #[.slice av k cv] 23)).alloc (.cells #[.func (.func 72) #[] #[.pointer (some ⟨w.heap.size, 0, none⟩)]] 83)).alloc (.cells #[.int .i64 n] 3)).heap[w.heap.size + 1]? = some (.cells #[.func (.func 72) #[] #[.pointer (some ⟨w.heap.size, 0, none⟩)]] 83 (0, 0)) := by
    rw [Below.heap_alloc _ _ _ (by simp)]
    have := World.alloc_heap_new (w.alloc (.cells #[.slice av k cv] 23)) (.cells #[.func (.func 72) #[] #[.pointer (some ⟨w.heap.size, 0, none⟩)]] 83)
    rwa [World.size_alloc] at this
  rw [World.size_alloc] at e1
  have G2 := gaps_gives (castS M) n hn (castS_small hn hf) 72 #[.pointer (some ⟨w.heap.size, 0, none⟩)] _ _ G1 eg38 _ hb2.size (fun j hj => hb2.block j (G1.1 j hj)) (w.heap.size + 1) (w.heap.size + 1 + 1) e2 e1
  rw [gapsI_cast] at G2
  exact ⟨_, G2⟩

include hr hs in
theorem two_gives : ∃ R, Gives Tryz.prog 71 #[.pointer (some ⟨w.heap.size + 1 + 1 + 1, 0, none⟩), .pointer (some ⟨w.heap.size + 1 + 1 + 1 + 1, 0, none⟩)] encS (castS (gapsF 0 n (gapsF 0 n M))) R
    (((((w.alloc (.cells #[.slice av k cv] 23)).alloc (.cells #[.func (.func 72) #[] #[.pointer (some ⟨w.heap.size, 0, none⟩)]] 83)).alloc (.cells #[.int .i64 n] 3)).alloc (.cells #[.func (.func 71) #[] #[.pointer (some ⟨w.heap.size + 1, 0, none⟩), .pointer (some ⟨w.heap.size + 1 + 1, 0, none⟩)]] 83)).alloc (.cells #[.int .i64 n] 3)) := by
  obtain ⟨R, G⟩ := one_gives M n hn hf hlen av cv k w hsp hk
  have hsz : (((w.alloc (.cells #[.slice av k cv] 23)).alloc (.cells #[.func (.func 72) #[] #[.pointer (some ⟨w.heap.size, 0, none⟩)]] 83)).alloc (.cells #[.int .i64 n] 3)).heap.size = w.heap.size + 1 + 1 + 1 := by simp
  generalize (((w.alloc (.cells #[.slice av k cv] 23)).alloc (.cells #[.func (.func 72) #[] #[.pointer (some ⟨w.heap.size, 0, none⟩)]] 83)).alloc (.cells #[.int .i64 n] 3)) = W at *
  have hb2 : Below W.heap.size W ((W.alloc (.cells #[.func (.func 71) #[] #[.pointer (some ⟨w.heap.size + 1, 0, none⟩), .pointer (some ⟨w.heap.size + 1 + 1, 0, none⟩)]] 83)).alloc (.cells #[.int .i64 n] 3)) := ((Below.refl _ _).alloc (Nat.le_refl _) _).alloc (by simp) _
  have e1 := heap_alloc2_new W (.cells #[.func (.func 71) #[] #[.pointer (some ⟨w.heap.size + 1, 0, none⟩), .pointer (some ⟨w.heap.size + 1 + 1, 0, none⟩)]] 83) (.cells #[.int .i64 n] 3)
  have e2 : ((W.alloc (.cells #[.func (.func 71) #[] #[.pointer (some ⟨w.heap.size + 1, 0, none⟩), .pointer (some ⟨w.heap.size + 1 + 1, 0, none⟩)]] 83)).alloc (.cells #[.int .i64 n] 3)).heap[W.heap.size]? = some (.cells #[.func (.func 71) #[] #[.pointer (some ⟨w.heap.size + 1, 0, none⟩), .pointer (some ⟨w.heap.size + 1 + 1, 0, none⟩)]] 83 (0, 0)) := by
    rw [Below.heap_alloc _ _ _ (by simp)]
    exact World.alloc_heap_new W _
  rw [hsz] at e1 e2
  have G2 := gaps_gives (castS (gapsF 0 n M)) n hn (castS_small hn (gapsF_fit hr hs hf)) 71 _ _ _ G eg37 _ hb2.size (fun j hj => hb2.block j (G.1 j hj)) (w.heap.size + 1 + 1 + 1) (w.heap.size + 1 + 1 + 1 + 1) e2 e1
  rw [gapsI_cast] at G2
  exact ⟨_, G2⟩

end

set_option maxHeartbeats 4000000 in
theorem pnorm_good (L : List SpI) (N : List Sp) (n : Nat) (a : Option Addr) (c len : Nat) (w : World) (h : SpansAt w a L) (hl : L.length = len) (hlen : len ≤ 100000) (hg : Fits L N n) :
    Calls Tryz.prog 25 #[.slice a len c, .int .i64 n] w (RowAt N (memB N) n w) := by
  have HM := Lib.hid (ordered_good L N n a c len w h hl hlen hg)
  have HG := Lib.hid hg
  have HL := Lib.hid hl
  clear h hl hg
  go_enter Tryz.func25, Tryz.ntmps25
  go_wp2_with fail
  refine HM.out.mono ?_
  rintro e w1 (⟨rfl, hna, hb⟩ | ⟨v, M, rfl, hp, hr, hF⟩)
  · go_wp2
    go_ret2
    exact .inl ⟨rfl, hna, hb⟩
  · have hk : M.length ≤ 100000 := by
      have h1 := hp.length_eq
      have h2 := HL.out
      rw [HG.out.eq, castS_length] at h2
      omega
    have hs : ∀ s ∈ M, 1 ≤ s.2 := fun s hs => HG.out.some s (hp.mem_iff.1 hs)
    have hf : ∀ s ∈ M, s.1 + s.2 ≤ n := fun s hs => HG.out.fit s (hp.mem_iff.1 hs)
    obtain ⟨av, cv, rfl⟩ : ∃ av cv, v = .slice av M.length cv := by
      obtain ⟨O, ⟨ho, _⟩, _⟩ := hF
      obtain ⟨av, cv, e⟩ := own_slice ho
      rw [castS_length] at e
      exact ⟨av, cv, e⟩
    have hsp : SpansAt w1 av (castS M) := by
      obtain ⟨O, ⟨ho, _⟩, _⟩ := hF
      rw [castS_length] at ho
      exact (spans_own ho).2
    obtain ⟨R, G⟩ := two_gives M n HG.out.hi hr hs hf hk av cv M.length w1 hsp rfl
    have e5 : gapsF 0 n (gapsF 0 n M) = rows (memB N) n := by
      rw [gapsF_twice hr hs hf]
      exact rows_congr fun x _ => memB_perm hp x
    rw [e5] at G
    have hlr := rows_len (memB N) n
    have hhi := HG.out.hi
    have HCOL := Lib.hid (collect_any (castS (rows (memB N) n)) (by rw [castS_length]; omega) _ _ R _ G eg37 _ (Nat.le_refl _) (fun _ _ => rfl))
    have HBL := Lib.hid (hF.bel.trans ((((((Below.refl w1.heap.size w1).alloc (Nat.le_refl _) (.cells #[.slice av M.length cv] 23)).alloc (by simp) (.cells #[.func (.func 72) #[] #[.pointer (some ⟨w1.heap.size, 0, none⟩)]] 83)).alloc (by simp; omega) (.cells #[.int .i64 n] 3)).alloc (by simp; omega) (.cells #[.func (.func 71) #[] #[.pointer (some ⟨w1.heap.size + 1, 0, none⟩), .pointer (some ⟨w1.heap.size + 1 + 1, 0, none⟩)]] 83)).alloc (by simp; omega) (.cells #[.int .i64 n] 3) |>.mono hF.bel.size))
    have HAP : Hid (N.Pairwise Apart) := (apart_perm hp).1 hr.apart
    clear G e5 hsp hs hf hk hr hp hF hlr
    go_wp2_with (first | (go_at_call 46; refine (values_any _ _ _ _).mono ?_; rintro e w2 ⟨rfl, rfl⟩) | (go_at_call 45; refine (gaps_any _ _ _ _).mono ?_; rintro e w2 ⟨rfl, rfl⟩) | (go_at_call 44; refine HCOL.out.mono ?_; rintro e w5 ⟨v5, rfl, hF5⟩))
    go_ret2
    exact .inr ⟨v5, rfl, HAP.out, Fresh.behind HBL.out hF5⟩

end Go.Proofs.YteellffkjjllgaaGreat
