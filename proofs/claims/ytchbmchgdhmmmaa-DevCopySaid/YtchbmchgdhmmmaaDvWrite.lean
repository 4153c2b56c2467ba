/-
  What Write makes of a device. Conditions: the device lies in memory as DvBase says; at most 100000 writes are pending.
-/
import Derived.Test.YtchbmchgdhmmmaaDvOps
import Derived.Test.YtchbmchgdhmmmaaShelf
import Derived.OwnWalk
namespace Go.Proofs.Ytchbmchgdhmmmaa
open Go.RowKit Go.Rc4

set_option maxHeartbeats 1000000 in
theorem Clone_text (s : ByteArray) (hs : s.size ≤ 281474976710656) (w : World) :
    Calls Try.prog 37 #[.string s] w fun e w' => e = .returned (.string s) ∧ Below w.heap.size w w' := by
  have HC := Lib.hid (Try.stringslite_Clone s w hs)
  clear hs
  go_enter Try.func37, Try.ntmps37
  go_wp2_with (go_at_call 46; ((with_reducible refine HC.out.mono ?_)); rintro e w1 ⟨rfl, hb⟩)
  go_ret
  exact ⟨rfl, hb⟩

theorem info66 : (Try.prog.info? 66).map (fun i => (i.zero, i.size, i.bytes)) = some (some (.agg #[.int .i64 0, .string ⟨#[]⟩]), 2, 24) := by kernel_rfl

section
variable {base b bs cs bf cf : Nat} {vp : Value} {d : DS} {w : World}

set_option maxHeartbeats 2000000 in
theorem Write_err (h : Dv 58 66 base b bs cs bf cf vp d w) (at_ : Int) (t : ByteArray) (hr : ¬ d.reach at_ = 0) :
    Calls Try.prog 15 #[.pointer (some ⟨b, 0, none⟩), .int .i64 at_, .string t] w fun e w' => e = .returned (.int .i64 (d.reach at_)) ∧ w = w' := by
  have HR := Lib.hid (reach_any h at_)
  clear h
  generalize d.reach at_ = r at *
  have hr' : (r == 0) = false := by simpa using hr
  have hr2 : (r != 0) = true := by simpa using hr
  go_enter Try.func15, Try.ntmps15
  go_wp2_with (go_at_call 35; ((with_reducible refine HR.out.mono ?_)); rintro e w1 ⟨rfl, rfl⟩)
  go_ret
  exact ⟨rfl, rfl⟩

set_option maxHeartbeats 2000000 in
theorem Write_arg (h : Dv 58 66 base b bs cs bf cf vp d w) (at_ : Int) (t : ByteArray) (hr : d.reach at_ = 0) (ht : ¬ t.size = 64) :
    Calls Try.prog 15 #[.pointer (some ⟨b, 0, none⟩), .int .i64 at_, .string t] w fun e w' => e = .returned (.int .i64 1) ∧ w = w' := by
  have HR := Lib.hid (reach_any h at_)
  rw [hr] at HR
  clear h hr
  have ht' : ¬ ((t.size : Int) = 64) := by omega
  have ht2 : ((t.size : Int) != 64) = true := by simpa using ht'
  go_enter Try.func15, Try.ntmps15
  go_wp2_with (go_at_call 35; ((with_reducible refine HR.out.mono ?_)); rintro e w1 ⟨rfl, rfl⟩)
  go_ret
  exact ⟨rfl, rfl⟩

set_option maxHeartbeats 2000000 in
theorem Write_dead (h : Dv 58 66 base b bs cs bf cf vp d w) (at_ : Int) (t : ByteArray) (hr : d.reach at_ = 0) (ht : t.size = 64) (hl : d.left = 0) :
    Calls Try.prog 15 #[.pointer (some ⟨b, 0, none⟩), .int .i64 at_, .string t] w fun e w' => e = .returned (.int .i64 8) ∧ w.setCell ⟨b, 4, none⟩ (.bool true) = w' := by
  have HR := Lib.hid (reach_any h at_)
  have HC := Lib.hid (count_zero h hl)
  rw [hr] at HR
  clear h hr hl
  go_enter Try.func15, Try.ntmps15
  go_wp2_with (first | (go_at_call 35; ((with_reducible refine HR.out.mono ?_)); rintro e w1 ⟨rfl, rfl⟩) | (go_at_call 36; ((with_reducible refine HC.out.mono ?_)); rintro e w1 ⟨rfl, rfl⟩))
  go_ret
  exact ⟨rfl, rfl⟩

set_option maxHeartbeats 4000000 in
theorem Write_done (h : Dv 58 66 base b bs cs bf cf vp d w) (i : Nat) (t : ByteArray) (hr : d.reach i = 0) (hi : i < d.s.length) (ht : t.size = 64) (hl : ¬ d.left = 0) (h2 : d.left ≤ 9223372036854775807) (hp : d.p.length < 100000) :
    Calls Try.prog 15 #[.pointer (some ⟨b, 0, none⟩), .int .i64 i, .string t] w fun e w' => e = .returned (.int .i64 0) ∧ Next 58 66 base (Own b bs bf vp) b { d with s := d.s.set i t, p := d.p ++ [(i, t)], left := d.tick } w w' := by
  have HR := Lib.hid (reach_any h (i : Int))
  have HC := Lib.hid (count_on h hl h2)
  have HT := Lib.hid (fun w => Clone_text t (by omega) w)
  rw [hr] at HR
  have H := Lib.hid h
  have HI := Lib.hid hi
  have hiI : (i : Int) < d.s.length := by omega
  clear h hr hl h2
  go_enter Try.func15, Try.ntmps15
  go_wp2_with (first | (go_at_call 35; ((with_reducible refine HR.out.mono ?_)); rintro e w1 ⟨rfl, rfl⟩) | (go_at_call 36; ((with_reducible refine HC.out.mono ?_)); rintro e w1 ⟨rfl, hd1, hm1⟩; have H1 := Lib.hid hd1; clear hd1))
  refine (HT.out _).mono ?_
  rintro e w2 ⟨rfl, hb2⟩
  have H2 := H1.out.below hb2
  obtain ⟨c0, _, c2, _, _⟩ := H2.cells
  have f2 := H2.marks 2
  have hs := H2.sAt (i := i) HI.out
  obtain ⟨hs, hf⟩ := hs
  have hcb := H2.sb
  have H3 := Lib.hid (H2.putS i t)
  have HA := Lib.hid (Dv.below H3.out ((Below.refl _ _).alloc (Nat.le_refl _) (.cells #[.int .i64 (i : Int), .string t] 66)))
  have HB2 := Lib.hid hb2
  obtain ⟨i0, hi0, hz0, hz1, hz2⟩ := info_parts info66
  have hsz : (w2.setCell ⟨bs, i, none⟩ (.string t)).heap.size = w2.heap.size := by simp [World.setCell]
  clear H2 hb2 hi
  go_wp2_with (at_builtin; refine wpList_append_own2 _ rfl (.tmp 36) (.tmp 40) 56 rfl base 66 i0 _ 2 24 Try.underlying56 hi0 hz0 hz1 hz2 rfl (by decide) vp d.p.length (flat d.p) rfl HA.out.rp ⟨_, 0, none⟩ 1 1 [.int .i64 (i : Int), .string t] rfl rfl ?c1 ?c2 ?b1 ?b2 ?b3 ?next)
  case c1 =>
    intro j u hj
    have e : (⟨w2.heap.size, 0, none⟩ : Addr).add j = ⟨(w2.setCell ⟨bs, i, none⟩ (.string t)).heap.size, j, none⟩ := by rw [hsz]; unfold Addr.add; split <;> simp_all
    rw [e, World.cell?_alloc_new]
    simpa using hj
  case c2 => intro u hu; simp at hu; rcases hu with rfl | rfl <;> rfl
  case b1 => unfold maxLen; omega
  case b2 => omega
  case b3 => have := (HA.out.lt b (.inl rfl)).1; have := (HA.out.lt b (.inl rfl)).2; omega
  case next =>
    intro v' w' hown hgrow hnew
    obtain ⟨g, cap', rfl⟩ : ∃ g cap', v' = .slice (some ⟨g, 0, none⟩) (d.p.length + 1) cap' := by
      rcases hown.2 with ⟨_, h⟩ | ⟨g, cap', _, h, _⟩
      · omega
      · exact ⟨g, cap', h⟩
    have hgr := Lib.hid hgrow
    have HO := Lib.hid hown
    have HN := Lib.hid hnew
    have hbk : w'.heap[b]? = _ := (hgrow.block b (HA.out.lt b (.inl rfl)).2 (fun e => HA.out.pb e.symm)).trans HA.out.blk
    have k2 : w'.cell? ⟨b, 2, none⟩ = some vp := by rw [Lib.cell_of_heap hbk]; rfl
    have e2 : w'.frozen? ⟨b, 2, none⟩ = false := Lib.frozen_of_heap hbk 2
    clear hgrow hown hnew hbk
    go_wp2
    go_ret
    have hP := HA.out.putP (p := d.p ++ [(i, t)]) (v := .slice (some ⟨g, 0, none⟩) (d.p.length + 1) cap') (by rw [List.length_append, flat_append]; exact HO.out) hgr.out (fun k hk => (HN.out k hk).imp id (fun h => by simp [World.setCell]; omega))
    have hm2 : Moved (Own b bs bf vp) w w2 := hm1.trans (.of_below (fun _ => False) HB2.out) (fun _ h => h.elim)
    have hm3 := (((hm2.setCell (b := bs) (.inl (.inr (.inl rfl))) i (.string t)).alloc (.cells #[.int .i64 (i : Int), .string t] 66)).grown hgr.out (fun k hk => .inl (.inr (.inr (.inr hk)))))
    refine ⟨rfl, _, ⟨_, _, _, _, _, hP, rfl⟩, hm3.setCell (.inl (.inl rfl)) _ _, ?_⟩
    intro k hk
    rcases hk with hk | hk | hk | hk
    · exact .inl (.inl hk)
    · exact .inl (.inr (.inl hk))
    · exact .inl (.inr (.inr (.inl hk)))
    · rcases HN.out k hk with hk | hk
      · exact .inl (.inr (.inr (.inr hk)))
      · right
        have := hm2.size
        omega

end

theorem reach_in {d : DS} {at_ : Int} (hr : d.reach at_ = 0) : 0 ≤ at_ ∧ at_ < d.s.length := by
  unfold DS.reach at hr
  split at hr
  · simp at hr
  · split at hr
    · simp at hr
    · omega

theorem Write_any {base b : Nat} {O : Nat → Prop} {d : DS} {w : World} (h : Dev 58 66 base O b d w) (h2 : d.left ≤ 9223372036854775807) (hp : d.p.length < 100000) (at_ : Int) (t : ByteArray) :
    Calls Try.prog 15 #[.pointer (some ⟨b, 0, none⟩), .int .i64 at_, .string t] w fun e w' => e = .returned (.int .i64 (d.wr at_ t).1) ∧ Next 58 66 base O b (d.wr at_ t).2 w w' := by
  have h0 := h
  obtain ⟨bs, cs, bf, cf, vp, h, rfl⟩ := h
  unfold DS.wr
  by_cases hr : d.reach at_ = 0
  · rw [if_neg (by simpa using hr)]
    by_cases ht : t.size = 64
    · rw [if_neg (by simpa using ht)]
      by_cases hl : d.left = 0
      · rw [if_pos hl]
        refine (Write_dead h at_ t hr ht hl).mono ?_
        rintro e w' ⟨rfl, rfl⟩
        exact ⟨rfl, _, ⟨_, _, _, _, _, h.putDown true, rfl⟩, (Moved.refl _ _).setCell (.inl (.inl rfl)) _ _, fun k hk => .inl hk⟩
      · rw [if_neg hl]
        obtain ⟨hi, hi2⟩ := reach_in hr
        obtain ⟨i, rfl⟩ : ∃ i : Nat, at_ = i := ⟨at_.toNat, by omega⟩
        exact Write_done h i t hr (by omega) ht hl h2 hp
    · rw [if_pos (by simpa using ht)]
      refine (Write_arg h at_ t hr ht).mono ?_
      rintro e w' ⟨rfl, rfl⟩
      exact ⟨rfl, _, h0, Moved.refl _ _, fun k hk => .inl hk⟩
  · rw [if_pos (by simpa using hr)]
    refine (Write_err h at_ t hr).mono ?_
    rintro e w' ⟨rfl, rfl⟩
    exact ⟨rfl, _, h0, Moved.refl _ _, fun k hk => .inl hk⟩

end Go.Proofs.Ytchbmchgdhmmmaa
