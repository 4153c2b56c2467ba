/-
  A device in memory: a block of five cells, two rows of sectors, a row of pending writes, all of the call's own; and what becomes of it, in plain words. Conditions: none.
-/
import Derived.Test.YtchbmchgdhmmmaaLawG
import Derived.Test.YtchbmchgdhmmmaaHold
namespace Go.Rc4

/-- What a device holds: the sectors now, those of the last flush, the writes since, the number it is armed with, is the power away. -/
structure DS where
  s : List ByteArray
  f : List ByteArray
  p : List (Nat × ByteArray)
  left : Int
  down : Bool

def strs (l : List ByteArray) : List Value := l.map Value.string

def flat : List (Nat × ByteArray) → List Value
  | [] => []
  | x :: r => .int .i64 (x.1 : Int) :: .string x.2 :: flat r

def puts : List ByteArray → List (Nat × ByteArray) → List ByteArray
  | f, [] => f
  | f, x :: r => puts (f.set x.1 x.2) r

/-- The writes that are kept: those for which ks tells a number that is odd. -/
def kept : List (Nat × ByteArray) → List Int → List (Nat × ByteArray)
  | [], _ => []
  | _ :: _, [] => []
  | x :: r, k :: ks => if k % 2 = 0 then kept r ks else x :: kept r ks

def kput (f : List ByteArray) (p : List (Nat × ByteArray)) (ks : List Int) : List ByteArray := puts f (kept p ks)

def DS.tick (d : DS) : Int := if 0 < d.left then d.left - 1 else d.left

def DS.reach (d : DS) (at_ : Int) : Int := if d.down then 8 else if at_ < 0 ∨ (d.s.length : Int) ≤ at_ then 11 else 0

def DS.wr (d : DS) (at_ : Int) (t : ByteArray) : Int × DS :=
  if d.reach at_ ≠ 0 then (d.reach at_, d) else if t.size ≠ 64 then (1, d) else if d.left = 0 then (8, { d with down := true })
  else (0, { d with s := d.s.set at_.toNat t, p := d.p ++ [(at_.toNat, t)], left := d.tick })

def DS.fl (d : DS) : Int × DS :=
  if d.down then (8, d) else if d.left = 0 then (8, { d with down := true }) else (0, { d with f := puts d.f d.p, p := [], left := d.tick })

def DS.pw (d : DS) (keep : List Int) : DS := ⟨kput d.f d.p keep, kput d.f d.p keep, [], -1, false⟩

def DS.rd (d : DS) (at_ : Int) : ByteArray × Int := if d.reach at_ ≠ 0 then (⟨#[]⟩, d.reach at_) else (d.s.getD at_.toNat ⟨#[]⟩, 0)

structure Ok (d : DS) : Prop where
  len : d.f.length = d.s.length
  ats : ∀ x ∈ d.p, x.1 < d.s.length
  pos : 0 < d.s.length
  small : d.s.length ≤ 8192
  few : d.p.length ≤ 100000
  now : d.s = puts d.f d.p

theorem strs_length (l : List ByteArray) : (strs l).length = l.length := by simp [strs]
theorem strs_set (l : List ByteArray) (i : Nat) (t : ByteArray) : (strs l).set i (.string t) = strs (l.set i t) := by simp [strs, List.map_set]
theorem strs_get (l : List ByteArray) (i : Nat) (h : i < l.length) : (strs l)[i]? = some (.string (l.getD i ⟨#[]⟩)) := by
  simp [strs, List.getElem?_map, List.getElem?_eq_getElem h, List.getD_eq_getElem?_getD]

theorem flat_length (p : List (Nat × ByteArray)) : (flat p).length = p.length * 2 := by
  induction p with
  | nil => rfl
  | cons x r ih => simp [flat, ih]; omega

theorem flat_append (p q : List (Nat × ByteArray)) : flat (p ++ q) = flat p ++ flat q := by
  induction p with
  | nil => rfl
  | cons x r ih => simp [flat, ih]

theorem flat_at (p : List (Nat × ByteArray)) (i : Nat) (h : i < p.length) : (flat p)[i * 2]? = some (.int .i64 ((p.getD i (0, ⟨#[]⟩)).1 : Int)) ∧ (flat p)[i * 2 + 1]? = some (.string (p.getD i (0, ⟨#[]⟩)).2) := by
  induction p generalizing i with
  | nil => simp at h
  | cons x r ih =>
    cases i with
    | zero => simp [flat]
    | succ i =>
      have := ih i (by simpa using h)
      have e1 : (i + 1) * 2 = i * 2 + 1 + 1 := by omega
      rw [e1]
      simpa [flat] using this

theorem puts_length (f : List ByteArray) (p : List (Nat × ByteArray)) : (puts f p).length = f.length := by
  induction p generalizing f with
  | nil => rfl
  | cons x r ih => rw [puts, ih]; simp

theorem puts_append (f : List ByteArray) (p q : List (Nat × ByteArray)) : puts f (p ++ q) = puts (puts f p) q := by
  induction p generalizing f with
  | nil => rfl
  | cons x r ih => rw [List.cons_append, puts, puts, ih]

theorem kput_length (f : List ByteArray) (p : List (Nat × ByteArray)) (ks : List Int) : (kput f p ks).length = f.length := puts_length _ _

theorem kept_take (p : List (Nat × ByteArray)) (ks : List Int) (k : Nat) (h : k < p.length) :
    kept (p.take (k + 1)) ks = kept (p.take k) ks ++ (if k < ks.length ∧ ks.getD k 0 % 2 ≠ 0 then [p.getD k (0, ⟨#[]⟩)] else []) := by
  induction p generalizing ks k with
  | nil => simp at h
  | cons x r ih =>
    cases ks with
    | nil => cases k <;> simp [kept]
    | cons y ys =>
      cases k with
      | zero =>
        by_cases hy : y % 2 = 0 <;> simp [kept, hy]
      | succ k =>
        have := ih ys k (by simpa using h)
        rw [List.take_succ_cons, List.take_succ_cons, kept, kept]
        by_cases hy : y % 2 = 0
        · rw [if_pos hy, if_pos hy, this]; simp
        · rw [if_neg hy, if_neg hy, this]; simp

theorem Ok.rd_lt {d : DS} (h : Ok d) {i : Nat} (hi : i < d.p.length) : (d.p.getD i (0, ⟨#[]⟩)).1 < d.s.length := by
  refine h.ats _ ?_
  rw [List.getD_eq_getElem?_getD, List.getElem?_eq_getElem hi]
  exact List.getElem_mem _

theorem Ok.wr {d : DS} (h : Ok d) (at_ : Int) (t : ByteArray) (hf : d.p.length < 100000) : Ok (d.wr at_ t).2 := by
  unfold DS.wr
  split
  · exact h
  split
  · exact h
  split
  · exact ⟨h.len, h.ats, h.pos, h.small, h.few, h.now⟩
  · rename_i hr _ _
    have hr : d.reach at_ = 0 := by simpa using hr
    have hlt : at_.toNat < d.s.length := by
      have := h.pos
      unfold DS.reach at hr
      split at hr
      · simp at hr
      · split at hr
        · simp at hr
        · omega
    refine ⟨by simp [h.len], ?_, by simpa using h.pos, by simpa using h.small, by simp; omega, ?_⟩
    · intro x hx
      simp only [List.mem_append, List.mem_singleton] at hx
      rw [List.length_set]
      rcases hx with hx | rfl
      · exact h.ats x hx
      · exact hlt
    · show d.s.set at_.toNat t = puts d.f (d.p ++ [(at_.toNat, t)])
      rw [puts_append, ← h.now]
      rfl

theorem Ok.fl {d : DS} (h : Ok d) : Ok d.fl.2 := by
  unfold DS.fl
  split
  · exact h
  split
  · exact ⟨h.len, h.ats, h.pos, h.small, h.few, h.now⟩
  · exact ⟨by simp [puts_length, h.len], by intro x hx; simp at hx, h.pos, h.small, by simp, h.now⟩

theorem Ok.pw {d : DS} (h : Ok d) (ks : List Int) : Ok (d.pw ks) :=
  ⟨rfl, by intro x hx; simp [DS.pw] at hx, by simp [DS.pw, kput_length, h.len, h.pos], by simp [DS.pw, kput_length, h.len, h.small], by simp [DS.pw], rfl⟩

theorem Ok.arm {d : DS} (h : Ok d) (n : Int) : Ok { d with left := n } := ⟨h.len, h.ats, h.pos, h.small, h.few, h.now⟩

end Go.Rc4
namespace Go.Proofs.Ytchbmchgdhmmmaa
open Go.RowKit Go.Rc4

def Own (b bs bf : Nat) (vp : Value) (k : Nat) : Prop := k = b ∨ k = bs ∨ k = bf ∨ vp.ownBlock = some k

structure Dv (T E base b bs cs bf cf : Nat) (vp : Value) (d : DS) (w : World) : Prop where
  blk : w.heap[b]? = some (.cells #[.slice (some ⟨bs, 0, none⟩) d.s.length cs, .slice (some ⟨bf, 0, none⟩) d.f.length cf, vp, .int .i64 d.left, .bool d.down] T (0, 0))
  rs : w.ownsRow base 9 1 (.slice (some ⟨bs, 0, none⟩) d.s.length cs) d.s.length (strs d.s)
  rf : w.ownsRow base 9 1 (.slice (some ⟨bf, 0, none⟩) d.f.length cf) d.f.length (strs d.f)
  rp : w.ownsRow base E 2 vp d.p.length (flat d.p)
  hb : base ≤ b
  sb : bs ≠ b
  fb : bf ≠ b
  sf : bs ≠ bf
  pb : vp.ownBlock ≠ some b
  ps : vp.ownBlock ≠ some bs
  pf : vp.ownBlock ≠ some bf

section
variable {T E base b bs cs bf cf : Nat} {vp : Value} {d : DS} {w w' : World}

theorem Dv.kept (h : Dv T E base b bs cs bf cf vp d w) (hk : ∀ k, Own b bs bf vp k → w'.heap[k]? = w.heap[k]?) : Dv T E base b bs cs bf cf vp d w' := by
  have own : ∀ {e z : Nat} {v : Value} {n : Nat} {xs : List Value}, w.ownsRow base e z v n xs → (∀ k, v.ownBlock = some k → Own b bs bf vp k) → w'.ownsRow base e z v n xs := by
    intro e z v n xs h ho
    refine ⟨h.1, ?_⟩
    rcases h.2 with h2 | ⟨g, cap, cur, rfl, hb, hg, r⟩
    · exact .inl h2
    · exact .inr ⟨g, cap, cur, rfl, hb, (hk g (ho g rfl)).trans hg, r⟩
  exact ⟨(hk b (.inl rfl)).trans h.blk, own h.rs (fun k e => .inr (.inl (by simpa [Value.ownBlock] using e.symm))), own h.rf (fun k e => .inr (.inr (.inl (by simpa [Value.ownBlock] using e.symm)))), own h.rp (fun k e => .inr (.inr (.inr e))),
    h.hb, h.sb, h.fb, h.sf, h.pb, h.ps, h.pf⟩

theorem Dv.lt (h : Dv T E base b bs cs bf cf vp d w) : ∀ k, Own b bs bf vp k → base ≤ k ∧ k < w.heap.size := by
  intro k hk
  rcases hk with rfl | rfl | rfl | hk
  · exact ⟨h.hb, (Array.getElem?_eq_some_iff.1 h.blk).1⟩
  · exact h.rs.lt k rfl
  · exact h.rf.lt k rfl
  · exact h.rp.lt k hk

theorem Dv.below (h : Dv T E base b bs cs bf cf vp d w) (hb : Below w.heap.size w w') : Dv T E base b bs cs bf cf vp d w' :=
  h.kept fun k hk => hb.block k (h.lt k hk).2

theorem Dv.moved {O : Nat → Prop} (h : Dv T E base b bs cs bf cf vp d w) (hb : Moved O w w') (hO : ∀ k, O k → Own b bs bf vp k → False) : Dv T E base b bs cs bf cf vp d w' :=
  h.kept fun k hk => hb.block k (h.lt k hk).2 (fun ho => hO k ho hk)

theorem Dv.cells (h : Dv T E base b bs cs bf cf vp d w) : w.cell? ⟨b, 0, none⟩ = some (.slice (some ⟨bs, 0, none⟩) d.s.length cs) ∧ w.cell? ⟨b, 1, none⟩ = some (.slice (some ⟨bf, 0, none⟩) d.f.length cf) ∧ w.cell? ⟨b, 2, none⟩ = some vp ∧ w.cell? ⟨b, 3, none⟩ = some (.int .i64 d.left) ∧ w.cell? ⟨b, 4, none⟩ = some (.bool d.down) := by
  refine ⟨?_, ?_, ?_, ?_, ?_⟩ <;> (rw [Lib.cell_of_heap h.blk]; rfl)

theorem Dv.marks (h : Dv T E base b bs cs bf cf vp d w) (i : Nat) : w.frozen? ⟨b, i, none⟩ = false := Lib.frozen_of_heap h.blk i

theorem Dv.sAt (h : Dv T E base b bs cs bf cf vp d w) {i : Nat} (hi : i < d.s.length) : w.cell? ⟨bs, i, none⟩ = some (.string (d.s.getD i ⟨#[]⟩)) ∧ w.frozen? ⟨bs, i, none⟩ = false :=
  own_cell h.rs (strs_get _ _ hi)

theorem Dv.fAt (h : Dv T E base b bs cs bf cf vp d w) {i : Nat} (hi : i < d.f.length) : w.cell? ⟨bf, i, none⟩ = some (.string (d.f.getD i ⟨#[]⟩)) ∧ w.frozen? ⟨bf, i, none⟩ = false :=
  own_cell h.rf (strs_get _ _ hi)

theorem Dv.putS (h : Dv T E base b bs cs bf cf vp d w) (i : Nat) (t : ByteArray) : Dv T E base b bs cs bf cf vp { d with s := d.s.set i t } (w.setCell ⟨bs, i, none⟩ (.string t)) := by
  have hg := grown_setCell w bs i (.string t)
  refine ⟨?_, ?_, h.rf.kept hg (.inr (fun e => h.sf (by simpa [Value.ownBlock] using e.symm))), h.rp.kept hg (.inr h.ps), h.hb, h.sb, h.fb, h.sf, h.pb, h.ps, h.pf⟩
  · rw [Below.heap_setCell _ _ _ _ (fun e => h.sb e.symm), h.blk]
    simp
  · have := own_put (i := i) h.rs (.string t)
    rw [strs_set] at this
    simpa using this

theorem Dv.putF (h : Dv T E base b bs cs bf cf vp d w) (i : Nat) (t : ByteArray) : Dv T E base b bs cs bf cf vp { d with f := d.f.set i t } (w.setCell ⟨bf, i, none⟩ (.string t)) := by
  have hg := grown_setCell w bf i (.string t)
  refine ⟨?_, h.rs.kept hg (.inr (fun e => h.sf (by simpa [Value.ownBlock] using e))), ?_, h.rp.kept hg (.inr h.pf), h.hb, h.sb, h.fb, h.sf, h.pb, h.ps, h.pf⟩
  · rw [Below.heap_setCell _ _ _ _ (fun e => h.fb e.symm), h.blk]
    simp
  · have := own_put (i := i) h.rf (.string t)
    rw [strs_set] at this
    simpa using this

theorem Dv.putLeft (h : Dv T E base b bs cs bf cf vp d w) (n : Int) : Dv T E base b bs cs bf cf vp { d with left := n } (w.setCell ⟨b, 3, none⟩ (.int .i64 n)) := by
  have hg := grown_setCell w b 3 (.int .i64 n)
  refine ⟨?_, h.rs.kept hg (.inr (fun e => h.sb (by simpa [Value.ownBlock] using e))), h.rf.kept hg (.inr (fun e => h.fb (by simpa [Value.ownBlock] using e))), h.rp.kept hg (.inr h.pb), h.hb, h.sb, h.fb, h.sf, h.pb, h.ps, h.pf⟩
  rw [heap_setCell_same w b 3 _ T _ h.blk]
  rfl

theorem Dv.putDown (h : Dv T E base b bs cs bf cf vp d w) (n : Bool) : Dv T E base b bs cs bf cf vp { d with down := n } (w.setCell ⟨b, 4, none⟩ (.bool n)) := by
  have hg := grown_setCell w b 4 (.bool n)
  refine ⟨?_, h.rs.kept hg (.inr (fun e => h.sb (by simpa [Value.ownBlock] using e))), h.rf.kept hg (.inr (fun e => h.fb (by simpa [Value.ownBlock] using e))), h.rp.kept hg (.inr h.pb), h.hb, h.sb, h.fb, h.sf, h.pb, h.ps, h.pf⟩
  rw [heap_setCell_same w b 4 _ T _ h.blk]
  rfl

/-- Another row of pending writes lies in memory: the cell is set to it. -/
theorem Dv.putP (h : Dv T E base b bs cs bf cf vp d w) {v : Value} {p : List (Nat × ByteArray)} (hr : w'.ownsRow base E 2 v p.length (flat p)) (hg : w.grownBy w' vp.ownBlock)
    (hn : ∀ k, v.ownBlock = some k → vp.ownBlock = some k ∨ w.heap.size ≤ k) : Dv T E base b bs cs bf cf v { d with p := p } (w'.setCell ⟨b, 2, none⟩ v) := by
  have hlt := h.lt
  have out : ∀ k, Own b bs bf vp k → vp.ownBlock ≠ some k → v.ownBlock ≠ some k := fun k ho hne e => by
    rcases hn k e with e | e
    · exact hne e
    · have := (hlt k ho).2; omega
  have pb := out b (.inl rfl) h.pb
  have ps := out bs (.inr (.inl rfl)) h.ps
  have pf := out bf (.inr (.inr (.inl rfl))) h.pf
  have hs := grown_setCell w' b 2 v
  have hblk : w'.heap[b]? = _ := (hg.block b (hlt b (.inl rfl)).2 (fun e => h.pb e.symm)).trans h.blk
  refine ⟨?_, (h.rs.kept hg (.inr (fun e => h.ps e.symm))).kept hs (.inr (fun e => h.sb (by simpa [Value.ownBlock] using e))), (h.rf.kept hg (.inr (fun e => h.pf e.symm))).kept hs (.inr (fun e => h.fb (by simpa [Value.ownBlock] using e))),
    hr.kept hs (.inr pb), h.hb, h.sb, h.fb, h.sf, pb, ps, pf⟩
  rw [heap_setCell_same w' b 2 _ T _ hblk]
  rfl

end

/-- A device: where its parts lie is left open; O is the blocks that are its own. -/
def Dev (T E base : Nat) (O : Nat → Prop) (b : Nat) (d : DS) (w : World) : Prop := ∃ bs cs bf cf vp, Dv T E base b bs cs bf cf vp d w ∧ O = Own b bs bf vp

/-- What a call makes of a device: d, and but for its own blocks all is as it was. -/
def Next (T E base : Nat) (O : Nat → Prop) (b : Nat) (d : DS) (w w' : World) : Prop := ∃ O', Dev T E base O' b d w' ∧ Moved O w w' ∧ ∀ k, O' k → O k ∨ w.heap.size ≤ k

theorem Dev.lt {T E base b : Nat} {O : Nat → Prop} {d : DS} {w : World} (h : Dev T E base O b d w) : ∀ k, O k → base ≤ k ∧ k < w.heap.size := by
  obtain ⟨_, _, _, _, _, h, rfl⟩ := h
  exact h.lt

theorem Dev.below {T E base b : Nat} {O : Nat → Prop} {d : DS} {w w' : World} (h : Dev T E base O b d w) (hb : Below w.heap.size w w') : Dev T E base O b d w' := by
  obtain ⟨_, _, _, _, _, h, rfl⟩ := h
  exact ⟨_, _, _, _, _, h.below hb, rfl⟩

theorem Dev.moved {T E base b : Nat} {O O' : Nat → Prop} {d : DS} {w w' : World} (h : Dev T E base O b d w) (hb : Moved O' w w') (hO : ∀ k, O' k → O k → False) : Dev T E base O b d w' := by
  obtain ⟨_, _, _, _, _, h, rfl⟩ := h
  exact ⟨_, _, _, _, _, h.moved hb hO, rfl⟩

theorem Next.below {T E base b : Nat} {O : Nat → Prop} {d d0 : DS} {w w' : World} (h : Next T E base O b d w w') (h0 : Dev T E base O b d0 w) (hB : base ≤ w.heap.size) : Below base w w' := by
  obtain ⟨_, _, hm, _⟩ := h
  exact hm.below hB (fun k hk => (h0.lt k hk).1)

end Go.Proofs.Ytchbmchgdhmmmaa
