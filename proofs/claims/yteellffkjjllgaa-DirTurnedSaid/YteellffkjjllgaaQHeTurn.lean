/-
  Bits turned within 32 beside one another, in a sealed text: plain mathematics, and what Take answers then. Condition: as each theorem states.
-/
import Derived.Test.YteellffkjjllgaaQHeBytes
namespace Go.Proofs.Yteellffkjjllgaa
open Go.RowKit

def Turned (o : List UInt8) (p n k : Nat) (l : List UInt8) : Prop := l.length = o.length ∧ Rc2.say l = Rc2.say o ^^^ n % 2 ^ k * 2 ^ p

theorem Turned.start (o : List UInt8) (p n : Nat) : Turned o p n 0 o := ⟨rfl, by simp [Nat.mod_one]⟩

theorem Turned.pass {o l : List UInt8} {p n k : Nat} (h : Turned o p n k l) (hb : n / 2 ^ k % 2 = 0) : Turned o p n (k + 1) l ∧ n % 2 ^ (k + 1) = n % 2 ^ k := by
  have e : n % 2 ^ (k + 1) = n % 2 ^ k := by rw [Nat.pow_succ, Nat.mod_mul, hb]; omega
  exact ⟨⟨h.1, by rw [e]; exact h.2⟩, e⟩

theorem low_xor (x k : Nat) (h : x < 2 ^ k) : x + 2 ^ k = x ^^^ 2 ^ k := by
  have h2 : x ^^^ 2 ^ k = 1 * 2 ^ k ||| x := by
    apply Nat.eq_of_testBit_eq
    intro i
    rw [Nat.one_mul, Nat.testBit_xor, Nat.testBit_or, Nat.testBit_two_pow]
    by_cases hi : k = i
    · subst hi
      have : x.testBit k = false := Nat.testBit_lt_two_pow h
      simp [this]
    · simp [hi]
  have h3 := Nat.shiftLeft_add_eq_or_of_lt h 1
  rw [Nat.shiftLeft_eq] at h3
  rw [h2, ← h3]
  omega

theorem mod_more {n k : Nat} (hb : n / 2 ^ k % 2 = 1) : n % 2 ^ (k + 1) = n % 2 ^ k ^^^ 2 ^ k := by
  have hlt : n % 2 ^ k < 2 ^ k := Nat.mod_lt _ (Nat.two_pow_pos k)
  rw [← low_xor _ k hlt, Nat.pow_succ, Nat.mod_mul, hb, Nat.mul_one]

theorem mod_more_ne {n k : Nat} (hb : n / 2 ^ k % 2 = 1) : n % 2 ^ (k + 1) ≠ 0 := by
  rw [Nat.pow_succ, Nat.mod_mul, hb, Nat.mul_one]
  have := Nat.two_pow_pos k
  omega

theorem Turned.turn {o l : List UInt8} {p n k : Nat} (h : Turned o p n k l) (hb : n / 2 ^ k % 2 = 1) (hi : (p + k) / 8 < l.length) :
    Turned o p n (k + 1) (l.set ((p + k) / 8) (UInt8.ofNat ((l[(p + k) / 8]).toNat ^^^ 2 ^ ((p + k) % 8)))) := by
  refine ⟨by rw [List.length_set]; exact h.1, ?_⟩
  have hy : 2 ^ ((p + k) % 8) < 256 := Nat.pow_lt_pow_right (a := 2) (by decide) (m := (p + k) % 8) (n := 8) (by omega)
  rw [Rc3.say_set l _ hi _ hy, h.2, mod_more hb, ← Nat.pow_add, show (p + k) % 8 + 8 * ((p + k) / 8) = k + p by omega, Nat.xor_assoc]
  congr 1
  have := Nat.shiftLeft_xor_distrib (a := n % 2 ^ k) (b := 2 ^ k) (i := p)
  rw [Nat.shiftLeft_eq, Nat.shiftLeft_eq, Nat.shiftLeft_eq, ← Nat.pow_add] at this
  exact this.symm

theorem Turned.none {o l : List UInt8} {p n k : Nat} (h : Turned o p n k l) (h0 : n % 2 ^ k = 0) : l = o := by
  obtain ⟨h1, h2⟩ := h
  rw [h0, Nat.zero_mul, Nat.xor_zero] at h2
  rw [← Rc2.put_say l, ← Rc2.put_say o, h1, h2]

theorem Turned.some {s : ByteArray} {l : List UInt8} {p n k : Nat} (h : Turned (sealedB s).data.toList p n k l) (hn : n < 4294967296) (h0 : n % 2 ^ k ≠ 0) (hp : p ≤ 8 * l.length) :
    Rc2.get (behind ⟨l.toArray⟩).data.toList ≠ Rc3.crc (ahead ⟨l.toArray⟩).data.toList := by
  intro e
  have hz : (sealedB s).data.toList.length = s.size + 4 := by
    have := sealed_size s
    simpa using this
  have hsz : (ByteArray.mk l.toArray).size = l.length := by
    show l.toArray.size = _
    simp
  have e1 := (sealed_test ⟨l.toArray⟩ (by rw [hsz, h.1, hz]; omega)).1 e
  have e2 : (ahead ⟨l.toArray⟩).data.toList ++ Rc2.put 4 (Rc3.crc (ahead ⟨l.toArray⟩).data.toList) = l := by
    rw [← sealed_list, e1]
  have r1 := (Rc3.sealed_iff (ahead ⟨l.toArray⟩).data.toList _ (Rc2.put_length 4 _)).2 rfl
  rw [e2] at r1
  have r2 := (Rc3.sealed_iff s.data.toList _ (Rc2.put_length 4 _)).2 rfl
  rw [← sealed_list] at r2
  have r3 := Rc3.reg_turned 4294967295 _ l _ h.1 h.2
  rw [r1, r2, ← h.1] at r3
  have r4 : Rc3.it (8 * l.length) (n % 2 ^ k * 2 ^ p) = 0 := by
    have := congrArg (fun y => Rc3.it 32 4294967295 ^^^ y) r3
    simp only [Nat.xor_self, ← Nat.xor_assoc, Nat.zero_xor] at this
    exact this.symm
  exact Rc3.turned_ne l.length p (n % 2 ^ k) (Nat.lt_of_le_of_lt (Nat.mod_le _ _) hn) h0 hp r4

theorem Take_turned {s : ByteArray} {l : List UInt8} {p n k : Nat} (h : Turned (sealedB s).data.toList p n k l) (hs : s.size ≤ 2000) (hn : n < 4294967296) (h0 : n % 2 ^ k ≠ 0) (hp : p ≤ 8 * l.length) (w : World) :
    Calls Try.prog 26 #[.string ⟨l.toArray⟩] w fun e w' => e = .returned (.tuple #[.string ⟨#[]⟩, .int .i64 9]) ∧ Below w.heap.size w w' := by
  have hz : (sealedB s).data.toList.length = s.size + 4 := by
    have := sealed_size s
    simpa using this
  have hsz : (ByteArray.mk l.toArray).size = l.length := by
    show l.toArray.size = _
    simp
  have hl := h.1
  exact Take_bad _ (by rw [hsz, hl, hz]; omega) (by rw [hsz, hl, hz]; unfold maxLen; omega) (h.some hn h0 hp) w

theorem Take_whole {s : ByteArray} {l : List UInt8} {p n k : Nat} (h : Turned (sealedB s).data.toList p n k l) (hs : s.size ≤ 2000) (h0 : n % 2 ^ k = 0) (w : World) :
    Calls Try.prog 26 #[.string ⟨l.toArray⟩] w fun e w' => e = .returned (.tuple #[.string s, .int .i64 0]) ∧ Below w.heap.size w w' := by
  rw [h.none h0]
  exact Take_sealed s (by unfold maxLen; omega) w

end Go.Proofs.Yteellffkjjllgaa
