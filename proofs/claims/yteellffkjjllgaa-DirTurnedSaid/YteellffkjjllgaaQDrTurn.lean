/-
  A directory's bytes of which some bits are turned, or which are cut, are no directory's. Conditions: as each theorem states them.
-/
import Derived.Test.YteellffkjjllgaaQDrUse
import Derived.Test.YteellffkjjllgaaQHeTurn
namespace Go.Proofs.Yteellffkjjllgaa
open Go.ChangeShapes Go.WideShapes Go.ChangeAt Go.RowKit Go.Rc5 Go.Rc6 Go.Rc7

def Now (w : World) (b : Nat) (o : List UInt8) (p n k : Nat) (wr : World) : Prop :=
  ∃ l, Turned o p n k l ∧ BRow b l wr ∧ Below w.heap.size w wr ∧ b < wr.heap.size

theorem Now.pass {w wr : World} {b p n k : Nat} {o : List UInt8} (h : Now w b o p n k wr) (hb : n / 2 ^ k % 2 = 0) : Now w b o p n (k + 1) wr := by
  obtain ⟨l, hTu, hR, hBe, hbs⟩ := h
  exact ⟨l, (hTu.pass hb).1, hR, hBe, hbs⟩

theorem Now.turn {w wr : World} {b p n k : Nat} {o : List UInt8} (h : Now w b o p n k wr) (hw : w.heap.size ≤ b) (hb : n / 2 ^ k % 2 = 1) (j : Nat) (hj : j = p + k) (hin : j < 8 * o.length) :
    ∃ c v : UInt8, wr.cell? ⟨b, j / 8, none⟩ = some (.int .u8 (c.toNat : Int)) ∧ wr.frozen? ⟨b, j / 8, none⟩ = false ∧
      bits BinOp.xor IntKind.u8 (c.toNat : Int) (2 ^ (j % 8) % 256) = (v.toNat : Int) ∧ Now w b o p n (k + 1) ((wr.setCell ⟨b, j / 8, none⟩ (.int .u8 (v.toNat : Int))).drew) := by
  obtain ⟨l, hTu, hR, hBe, hbs⟩ := h
  have hl := hTu.1
  have hq : j / 8 < l.length := by omega
  have hy : 2 ^ (j % 8) < 256 := Nat.pow_lt_pow_right (a := 2) (by decide) (m := j % 8) (n := 8) (by omega)
  have hc := (l[j / 8]).toNat_lt
  have hx := u8_xor_nat (l[j / 8]).toNat (2 ^ (j % 8)) hc hy
  have hv : (UInt8.ofNat ((l[j / 8]).toNat ^^^ 2 ^ (j % 8))).toNat = (l[j / 8]).toNat ^^^ 2 ^ (j % 8) := by
    rw [UInt8.toNat_ofNat']
    exact Nat.mod_eq_of_lt (Nat.xor_lt_two_pow (n := 8) hc hy)
  refine ⟨l[j / 8], UInt8.ofNat ((l[j / 8]).toNat ^^^ 2 ^ (j % 8)), hR.1 (j / 8) hq, hR.2 (j / 8) hq, ?_, ?_⟩
  · have e : (2 ^ (j % 8) % 256 : Int) = ((2 ^ (j % 8) : Nat) : Int) := by
      have h1 : ((2 ^ (j % 8) : Nat) : Int) = 2 ^ (j % 8) := by norm_cast
      rw [← h1]
      generalize 2 ^ (j % 8) = y at hy
      omega
    rw [e, hv]
    exact hx
  · refine ⟨_, ?_, (hR.put (j / 8) hq _).drew, (hBe.setCell (p := ⟨b, j / 8, none⟩) hw _).drew, by simpa using hbs⟩
    subst hj
    exact hTu.turn hb hq

theorem Now.over {w wr : World} {b p n cap N : Nat} {o : List UInt8} (h : Now w b o p n 32 wr) (hN : N = o.length) :
    ∃ l, (convert 54 9 (.slice (some ⟨b, 0, none⟩) N cap)).run Try.prog wr = .ok (.string ⟨l.toArray⟩) wr ∧ Below w.heap.size w wr ∧ Turned o p n 32 l := by
  obtain ⟨l, hTu, hR, hBe, hbs⟩ := h
  exact ⟨l, hR.back cap N (by rw [hN, hTu.1]), hBe, hTu⟩


theorem dirB_list (L : List Fl) : (dirB L).data.toList = bodyT L ++ Rc2.put 4 (Rc3.crc (bodyT L)) := by
  unfold dirB
  rw [sealed_list]

theorem dirB_size (L : List Fl) : (dirB L).size = (bodyT L).length + 4 := by
  unfold dirB
  rw [sealed_size]
  rfl

/-- A directory's bytes of which some bits are turned are no directory's, and their sum is another one. -/
theorem turned_none {L : List Fl} {l : List UInt8} {p n : Nat} (h : Turned (dirB L).data.toList p n 32 l) (hn : n < 4294967296) (h0 : n ≠ 0) (hp : p ≤ 8 * l.length) : tkE ⟨l.toArray⟩ = 9 := by
  have hl : l.length = (bodyT L).length + 4 := by rw [h.1, ← size_list, dirB_size]
  have hs := Turned.some (s := ⟨(bodyT L).toArray⟩) h hn (by rw [Nat.mod_eq_of_lt (by exact hn)]; exact h0) hp
  have hz : (ByteArray.mk l.toArray).size = l.length := by
    show l.toArray.size = _
    simp
  unfold tkE
  rw [if_neg (by omega), if_neg (fun e => hs ((sealed_test _ (by omega)).2 e))]

theorem not_dir_of {s : ByteArray} (h : tkE s = 9) : errT s = 9 ∧ ¬ ∃ M, Dir M ∧ s = dirB M := by
  refine ⟨by unfold errT; rw [h]; rfl, fun ⟨M, _, e⟩ => ?_⟩
  rw [e, (tk_dir M).2] at h
  cases h

/-- A directory's bytes that are cut are no directory's. -/
theorem cut_none {L : List Fl} (hL : Dir L) (q : Nat) (hq : q < (dirB L).size) : ¬ ∃ M, Dir M ∧ (dirB L).extract 0 q = dirB M := by
  rintro ⟨M, hM, e⟩
  have h1 := congrArg (fun s => s.data.toList) e
  simp only [extract_take, dirB_list] at h1
  have h2 : (bodyT L ++ Rc2.put 4 (Rc3.crc (bodyT L))).take q ++ (bodyT L ++ Rc2.put 4 (Rc3.crc (bodyT L))).drop q = bodyT L ++ Rc2.put 4 (Rc3.crc (bodyT L)) := List.take_append_drop _ _
  have h3 : (bodyT L ++ Rc2.put 4 (Rc3.crc (bodyT L))).take q = bodyT M ++ Rc2.put 4 (Rc3.crc (bodyT M)) := by simpa using h1
  rw [h3, List.append_assoc] at h2
  obtain ⟨_, h4⟩ := body_inj hM hL h2
  have h5 := congrArg List.length h4
  rw [List.length_append, List.length_drop, Rc2.put_length, Rc2.put_length, List.length_append, Rc2.put_length] at h5
  rw [dirB_size] at hq
  omega

end Go.Proofs.Yteellffkjjllgaa
