/-
  What writes, flushes and reads make of a device, case by case. Conditions: as each theorem states them.
-/
import Derived.Test.YtchbmchgdhmmmaaDvFleet
import Derived.Test.YtchbmchgdhmmmaaDvIn
import Derived.Test.YtchbmchgdhmmmaaDvSec
namespace Go.Rc4

theorem reach_off {d : DS} (h : d.down = true) (i : Int) : d.reach i = 8 := by
  unfold DS.reach
  rw [if_pos h]

theorem reach_ok {d : DS} (h : d.down = false) {i : Nat} (hi : i < d.s.length) : d.reach i = 0 := by
  unfold DS.reach
  rw [h, if_neg (by decide), if_neg (by omega)]

theorem wr_off {d : DS} (h : d.down = true) (i : Int) (t : ByteArray) : d.wr i t = (8, d) := by
  unfold DS.wr
  rw [reach_off h, if_pos (by decide)]

theorem wr_dead {d : DS} (h : d.down = false) {i : Nat} (hi : i < d.s.length) {t : ByteArray} (ht : t.size = 64) (hl : d.left = 0) : d.wr i t = (8, { d with down := true }) := by
  unfold DS.wr
  rw [reach_ok h hi, if_neg (by decide), ht, if_neg (by decide), if_pos hl]

theorem wr_on {d : DS} (h : d.down = false) {i : Nat} (hi : i < d.s.length) {t : ByteArray} (ht : t.size = 64) (hl : d.left ≠ 0) :
    d.wr i t = (0, { d with s := d.s.set i t, p := d.p ++ [(i, t)], left := d.tick }) := by
  unfold DS.wr
  rw [reach_ok h hi, if_neg (by decide), ht, if_neg (by decide), if_neg hl]
  rfl

theorem fl_off {d : DS} (h : d.down = true) : d.fl = (8, d) := by
  unfold DS.fl
  rw [if_pos h]

theorem fl_dead {d : DS} (h : d.down = false) (hl : d.left = 0) : d.fl = (8, { d with down := true }) := by
  unfold DS.fl
  rw [h, if_neg (by decide), if_pos hl]

theorem fl_on {d : DS} (h : d.down = false) (hl : d.left ≠ 0) : d.fl = (0, { d with f := puts d.f d.p, p := [], left := d.tick }) := by
  unfold DS.fl
  rw [h, if_neg (by decide), if_neg hl]

theorem rd_off {d : DS} (h : d.down = true) (i : Int) : d.rd i = (⟨#[]⟩, 8) := by
  unfold DS.rd
  rw [reach_off h, if_pos (by decide)]

theorem rd_ok {d : DS} (h : d.down = false) {i : Nat} (hi : i < d.s.length) : d.rd i = (d.s.getD i ⟨#[]⟩, 0) := by
  unfold DS.rd
  rw [reach_ok h hi, if_neg (by decide)]
  rfl

/-- A device that is not armed, whose power is on, stays so. -/
structure Free (n : Nat) (d : DS) : Prop where
  len : d.s.length = n
  dn : d.down = false
  lf : d.left = -1

theorem Free.tick {n : Nat} {d : DS} (h : Free n d) : d.tick = -1 := by
  unfold DS.tick
  rw [h.lf]
  rfl

theorem Free.wr {n : Nat} {d : DS} (h : Free n d) {i : Nat} (hi : i < n) {t : ByteArray} (ht : t.size = 64) : d.wr i t = (0, ⟨d.s.set i t, d.f, d.p ++ [(i, t)], -1, false⟩) := by
  rw [wr_on h.dn (by rw [h.len]; exact hi) ht (by rw [h.lf]; decide), h.tick, h.dn]

theorem Free.fl {n : Nat} {d : DS} (h : Free n d) : d.fl = (0, ⟨d.s, puts d.f d.p, [], -1, false⟩) := by
  rw [fl_on h.dn (by rw [h.lf]; decide), h.tick, h.dn]

theorem Free.rd {n : Nat} {d : DS} (h : Free n d) {i : Nat} (hi : i < n) : d.rd i = (d.s.getD i ⟨#[]⟩, 0) := rd_ok h.dn (by rw [h.len]; exact hi)

theorem Free.new (n : Nat) : Free n (DS.new n) := ⟨by simp [DS.new], rfl, rfl⟩

theorem Free.pw {n : Nat} {d : DS} (h : Free n d) (ok : Ok d) (ks : List Int) : Free n (d.pw ks) := ⟨by simp [DS.pw, kput_length, ok.len, h.len], rfl, rfl⟩

end Go.Rc4
namespace Go.Proofs.Ytchbmchgdhmmmaa
open Go.RowKit Go.Rc4

theorem pick_lit (c : Int) (h : In64 c) (n : Nat) (m : Int) (hm : (n : Int) = m) (hn : 0 < n) (hn2 : n ≤ 1000) (w : World) :
    Calls Try.prog 16 #[.int .i64 c, .int .i64 m] w fun e w' => e = .returned (.int .i64 (pk c n)) ∧ w = w' := by
  subst hm
  exact pick_any c n hn hn2 h.1 h.2 w

end Go.Proofs.Ytchbmchgdhmmmaa
