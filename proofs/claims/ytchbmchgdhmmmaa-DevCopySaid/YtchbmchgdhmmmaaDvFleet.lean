/-
  What the methods of a device make of it where several devices and rows lie in memory that share nothing. Conditions: they lie there as Hold and DvBase say; at most 100000 writes are pending.
-/
import Derived.Test.YtchbmchgdhmmmaaDvNew
namespace Go.Proofs.Ytchbmchgdhmmmaa
open Go.RowKit Go.Rc4

/-- A device among other things. -/
def devT (base b : Nat) (d : DS) : Thing base where
  holds O w := Dev 58 66 base O b d w ∧ Ok d ∧ d.left ≤ 9223372036854775807
  lt := fun h => h.1.lt
  keep := by
    rintro O w w' ⟨⟨bs, cs, bf, cf, vp, h, rfl⟩, hr⟩ hk
    exact ⟨⟨bs, cs, bf, cf, vp, h.kept hk, rfl⟩, hr⟩

theorem tick_le {d : DS} (h : d.left ≤ 9223372036854775807) : d.tick ≤ 9223372036854775807 := by
  unfold DS.tick
  split <;> omega

theorem wr_left {d : DS} (h : d.left ≤ 9223372036854775807) (at_ : Int) (t : ByteArray) : (d.wr at_ t).2.left ≤ 9223372036854775807 := by
  unfold DS.wr
  split
  · exact h
  split
  · exact h
  split
  · exact h
  · exact tick_le h

theorem fl_left {d : DS} (h : d.left ≤ 9223372036854775807) : d.fl.2.left ≤ 9223372036854775807 := by
  unfold DS.fl
  split
  · exact h
  split
  · exact h
  · exact tick_le h

section
variable {base b : Nat} {d : DS} {w0 w : World} {l : List (Thing base)} {i : Nat}

theorem fleet_write (h : Fleet base w0 l w) (i : Nat) (hi : l[i]? = some (devT base b d)) (hp : d.p.length < 100000) (at_ : Int) (t : ByteArray) :
    Calls Try.prog 15 #[.pointer (some ⟨b, 0, none⟩), .int .i64 at_, .string t] w fun e w' => e = .returned (.int .i64 (d.wr at_ t).1) ∧ Fleet base w0 (l.set i (devT base b (d.wr at_ t).2)) w' := by
  obtain ⟨O, ⟨hd, ok, hl⟩, hset, _⟩ := h.one hi
  refine (Write_any hd hl hp at_ t).mono ?_
  rintro e w' ⟨rfl, O', h1, h2, h3⟩
  exact ⟨rfl, hset _ O' w' ⟨h1, ok.wr at_ t hp, wr_left hl at_ t⟩ h2 h3⟩

theorem fleet_flush (h : Fleet base w0 l w) (i : Nat) (hi : l[i]? = some (devT base b d)) :
    Calls Try.prog 18 #[.pointer (some ⟨b, 0, none⟩)] w fun e w' => e = .returned (.int .i64 d.fl.1) ∧ Fleet base w0 (l.set i (devT base b d.fl.2)) w' := by
  obtain ⟨O, ⟨hd, ok, hl⟩, hset, _⟩ := h.one hi
  refine (Flush_any hd ok hl).mono ?_
  rintro e w' ⟨rfl, O', h1, h2, h3⟩
  exact ⟨rfl, hset _ O' w' ⟨h1, ok.fl, fl_left hl⟩ h2 h3⟩

theorem fleet_arm (h : Fleet base w0 l w) (i : Nat) (hi : l[i]? = some (devT base b d)) (n : Int) (hn : n ≤ 9223372036854775807) :
    Calls Try.prog 23 #[.pointer (some ⟨b, 0, none⟩), .int .i64 n] w fun e w' => e = .returned (.tuple #[]) ∧ Fleet base w0 (l.set i (devT base b { d with left := n })) w' := by
  obtain ⟨O, ⟨⟨bs, cs, bf, cf, vp, hd, rfl⟩, ok, hl⟩, hset, _⟩ := h.one hi
  refine (Arm_any hd n).mono ?_
  rintro e w' ⟨rfl, h1, h2⟩
  exact ⟨rfl, hset _ _ w' ⟨⟨_, _, _, _, _, h1, rfl⟩, ok.arm n, hn⟩ h2 (fun k hk => .inl hk)⟩

/-- The numbers of what is kept came in, or lie in memory of no other thing: they are read as they were. -/
theorem fleet_power_in (h : Fleet base w0 l w) (i : Nat) (hi : l[i]? = some (devT base b d)) (ka : Option Addr) (kn kc : Nat) (ks : List Int) (hkn : ks.length = kn)
    (hks : ∀ j, j < kn → ∃ y, ka = some y ∧ y.block < base ∧ w.cell? (y.add j) = some (.int .i64 (ks.getD j 0))) :
    Calls Try.prog 19 #[.pointer (some ⟨b, 0, none⟩), .slice ka kn kc] w fun e w' => e = .returned (.tuple #[]) ∧ Fleet base w0 (l.set i (devT base b (d.pw ks))) w' := by
  obtain ⟨O, ⟨hd, ok, hl⟩, hset, _⟩ := h.one hi
  refine (Power_dev hd ok ka kn kc ks hkn ?_).mono ?_
  · intro w' hm j hj
    obtain ⟨y, hy, hb, hc⟩ := hks j hj
    refine ⟨y, hy, ?_⟩
    have hB : Below base w w' := hm.below h.le (fun k hk => (hd.lt k hk).1)
    rw [← hc]
    exact hB.cell (by unfold Addr.add; split <;> exact hb)
  · rintro e w' ⟨rfl, O', h1, h2, h3⟩
    exact ⟨rfl, hset _ O' w' ⟨h1, ok.pw ks, by simp [DS.pw]⟩ h2 h3⟩

def ints (ks : List Int) : List Value := ks.map (Value.int .i64)

theorem fleet_power_row (h : Fleet base w0 l w) (i : Nat) (hi : l[i]? = some (devT base b d)) (j : Nat) (hne : j ≠ i) (ka : Option Addr) (kn kc : Nat) (ks : List Int) (hj : l[j]? = some (rowT base 3 1 (.slice ka kn kc) kn (ints ks))) :
    Calls Try.prog 19 #[.pointer (some ⟨b, 0, none⟩), .slice ka kn kc] w fun e w' => e = .returned (.tuple #[]) ∧ Fleet base w0 (l.set i (devT base b (d.pw ks))) w' := by
  obtain ⟨O, ⟨hd, ok, hl⟩, hset, hoth⟩ := h.one hi
  obtain ⟨O2, ⟨hr, rfl⟩, hdis⟩ := hoth j _ hne hj
  have hlen : ks.length = kn := by have := hr.1; simpa [ints] using this
  refine (Power_dev hd ok ka kn kc ks hlen ?_).mono ?_
  · intro w' hm m hmk
    rcases hr.2 with ⟨e, e2⟩ | ⟨g, cap, cur, e, hb, hg, hn, hc, hs, ht⟩
    · omega
    · simp only [Value.slice.injEq] at e
      obtain ⟨rfl, _, rfl⟩ := e
      have hgs : g < w.heap.size := (Array.getElem?_eq_some_iff.1 hg).1
      have hg' : w'.heap[g]? = _ := (hm.block g hgs (fun ho => hdis g rfl ho)).trans hg
      refine ⟨⟨g, 0, none⟩, rfl, ?_⟩
      have ha : (⟨g, 0, none⟩ : Addr).add m = ⟨g, m, none⟩ := by unfold Addr.add; split <;> simp_all
      rw [ha, Lib.cell_of_heap hg']
      have hm' : (ints ks)[m]? = some (.int .i64 (ks.getD m 0)) := by
        simp [ints, List.getElem?_map, List.getElem?_eq_getElem (show m < ks.length by omega), List.getD_eq_getElem?_getD]
      rw [← ht, List.getElem?_take] at hm'
      split at hm'
      · simpa using hm'
      · cases hm'
  · rintro e w' ⟨rfl, O', h1, h2, h3⟩
    exact ⟨rfl, hset _ O' w' ⟨h1, ok.pw ks, by simp [DS.pw]⟩ h2 h3⟩

theorem fleet_clone (h : Fleet base w0 l w) (i : Nat) (hi : l[i]? = some (devT base b d)) :
    Calls Try.prog 13 #[.pointer (some ⟨b, 0, none⟩)] w fun e w' => ∃ c, e = .returned (.pointer (some ⟨c, 0, none⟩)) ∧ Fleet base w0 (l ++ [devT base c d]) w' := by
  obtain ⟨O, ⟨hd, ok, hl⟩, _, _⟩ := h.one hi
  refine (Clone_dev hd ok).mono ?_
  rintro e w' ⟨rfl, O', h1, h2, h3⟩
  exact ⟨_, rfl, h.more (t := devT base w.heap.size d) ⟨h1, ok, hl⟩ h2 h3⟩

theorem fleet_new (h : Fleet base w0 l w) (n : Nat) (h0 : 0 < n) (hn : n ≤ 8192) :
    Calls Try.prog 10 #[.int .i64 n] w fun e w' => ∃ c, e = .returned (.tuple #[.pointer (some ⟨c, 0, none⟩), .int .i64 0]) ∧ Fleet base w0 (l ++ [devT base c (DS.new n)]) w' := by
  refine (New_any n h0 hn base w h.le).mono ?_
  rintro e w' ⟨c, rfl, O', h1, h2, h3⟩
  exact ⟨c, rfl, h.more (t := devT base c (DS.new n)) ⟨h1, Ok.new n h0 hn, by simp [DS.new]⟩ h2 h3⟩

theorem fleet_read (h : Fleet base w0 l w) (i : Nat) (hi : l[i]? = some (devT base b d)) (at_ : Int) :
    Calls Try.prog 20 #[.pointer (some ⟨b, 0, none⟩), .int .i64 at_] w fun e w' => e = .returned (.tuple #[.string (d.rd at_).1, .int .i64 (d.rd at_).2]) ∧ w = w' := by
  obtain ⟨O, ⟨⟨bs, cs, bf, cf, vp, hd, rfl⟩, _⟩, _⟩ := h.one hi
  exact Read_any hd at_

theorem fleet_down (h : Fleet base w0 l w) (i : Nat) (hi : l[i]? = some (devT base b d)) :
    Calls Try.prog 22 #[.pointer (some ⟨b, 0, none⟩)] w fun e w' => e = .returned (.bool d.down) ∧ w = w' := by
  obtain ⟨O, ⟨⟨bs, cs, bf, cf, vp, hd, rfl⟩, _⟩, _⟩ := h.one hi
  exact Down_any hd

theorem fleet_pending (h : Fleet base w0 l w) (i : Nat) (hi : l[i]? = some (devT base b d)) :
    Calls Try.prog 21 #[.pointer (some ⟨b, 0, none⟩)] w fun e w' => e = .returned (.int .i64 d.p.length) ∧ w = w' := by
  obtain ⟨O, ⟨⟨bs, cs, bf, cf, vp, hd, rfl⟩, _⟩, _⟩ := h.one hi
  exact Pending_any hd

theorem fleet_sectors (h : Fleet base w0 l w) (i : Nat) (hi : l[i]? = some (devT base b d)) :
    Calls Try.prog 33 #[.pointer (some ⟨b, 0, none⟩)] w fun e w' => e = .returned (.int .i64 d.s.length) ∧ w = w' := by
  obtain ⟨O, ⟨⟨bs, cs, bf, cf, vp, hd, rfl⟩, _⟩, _⟩ := h.one hi
  exact Sectors_any hd

theorem Fleet.ok (h : Fleet base w0 l w) (i : Nat) (hi : l[i]? = some (devT base b d)) : Ok d := by
  obtain ⟨_, ⟨_, ok, _⟩, _⟩ := h.one hi
  exact ok

end

end Go.Proofs.Ytchbmchgdhmmmaa
