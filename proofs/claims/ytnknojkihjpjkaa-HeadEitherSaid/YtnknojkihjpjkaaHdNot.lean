/-
  Bytes in memory, bits turned within 32 beside one another in a sealed text, and texts that are no head: noughts, one cut short, one with more behind, one whose first bytes are others. Conditions: as each theorem states them.
-/
import Derived.Test.YtnknojkihjpjkaaHdIn
namespace Go.Proofs.Ytnknojkihjpjkaa
open Go.RowKit Go.Rc5 Go.Rc6

theorem back_of {w : World} {b cap : Nat} (l : List UInt8) (h : ∀ j (hj : j < l.length), w.cell? ⟨b, j, none⟩ = some (.int .u8 ((l[j]).toNat : Int))) :
    (convert 48 9 (.slice (some ⟨b, 0, none⟩) l.length cap)).run Try.prog w = .ok (.string ⟨l.toArray⟩) w := by
  refine run_convert_bytes_back (P := Try.prog) w 48 9 5 ⟨b, 0, none⟩ cap l Try.underlying48 Try.underlying5 Try.underlying9 (fun j hj => ?_)
  have := h j hj
  by_cases e0 : j = 0
  · subst e0; simpa [Addr.add] using this
  · simpa [Addr.add, e0] using this

theorem back_one (w : World) (c : Nat) (hc : c < 256) :
    (convert 48 9 (.slice (some ⟨w.heap.size, 0, none⟩) 1 1)).run Try.prog (w.alloc (.cells #[.int .u8 (c : Int)] 5 (0, 0))) = .ok (.string ⟨#[UInt8.ofNat c]⟩) (w.alloc (.cells #[.int .u8 (c : Int)] 5 (0, 0))) := by
  refine back_of (b := w.heap.size) (cap := 1) [UInt8.ofNat c] (fun j hj => ?_)
  rw [World.cell?_alloc_new]
  match j, hj with
  | 0, _ =>
    have e : (UInt8.ofNat c).toNat = c := by rw [UInt8.toNat_ofNat']; omega
    show some (Value.int .u8 (c : Int)) = some (.int .u8 ((UInt8.ofNat c).toNat : Int))
    rw [e]

theorem back_four (w : World) (n : Nat) :
    (convert 48 9 (.slice (some ⟨w.heap.size, 0, none⟩) 4 4)).run Try.prog (w.alloc (.cells #[.int .u8 ((n : Int) % 256), .int .u8 ((n : Int) / 256 % 256), .int .u8 ((n : Int) / 65536 % 256), .int .u8 ((n : Int) / 16777216 % 256)] 5 (0, 0)))
      = .ok (.string ⟨(Rc2.put 4 n).toArray⟩) (w.alloc (.cells #[.int .u8 ((n : Int) % 256), .int .u8 ((n : Int) / 256 % 256), .int .u8 ((n : Int) / 65536 % 256), .int .u8 ((n : Int) / 16777216 % 256)] 5 (0, 0))) := by
  have h := back_of (w := w.alloc (.cells #[.int .u8 ((n : Int) % 256), .int .u8 ((n : Int) / 256 % 256), .int .u8 ((n : Int) / 65536 % 256), .int .u8 ((n : Int) / 16777216 % 256)] 5 (0, 0))) (b := w.heap.size) (cap := 4) (Rc2.put 4 n) (fun j hj => ?_)
  · rw [Rc2.put_length] at h
    exact h
  · rw [World.cell?_alloc_new]
    have hj4 : j < 4 := by rw [Rc2.put_length] at hj; exact hj
    have h2 := Rc2.put_get 4 n j hj4
    rw [List.getElem?_eq_getElem hj] at h2
    rw [Option.some.inj h2, UInt8.toNat_ofNat', Int.natCast_emod, Int.natCast_ediv]
    match j, hj4 with
    | 0, _ => simp
    | 1, _ => simp
    | 2, _ => simp
    | 3, _ => simp

/-- A row of bytes in one block. -/
def BRow (b : Nat) (l : List UInt8) (wr : World) : Prop :=
  (∀ j (hj : j < l.length), wr.cell? ⟨b, j, none⟩ = some (.int .u8 ((l[j]).toNat : Int))) ∧ ∀ j, j < l.length → wr.frozen? ⟨b, j, none⟩ = false

theorem BRow.start (w : World) (s : ByteArray) (cap : Nat) : BRow w.heap.size s.data.toList ((w.alloc (.cells (bytesRow s cap) 5 ((bytesRow s cap).size, (bytesRow s cap).size + 1))).drew) := by
  have hsz : s.size ≤ (bytesRow s cap).size := by
    have : s.data.size = s.size := rfl
    first | (simp [bytesRow]; done) | (simp [bytesRow]; omega)
  have hold : ((w.alloc (.cells (bytesRow s cap) 5 ((bytesRow s cap).size, (bytesRow s cap).size + 1))).drew).heap[w.heap.size]? = some (.cells (bytesRow s cap) 5 ((bytesRow s cap).size, (bytesRow s cap).size + 1)) := (MapKept.heap_alloc w _).1
  refine ⟨fun j hj => ?_, fun j hj => ?_⟩
  · have hj' : j < s.size := by simpa using hj
    rw [Lib.cell_of_heap hold, bytesRow_at s cap j hj']
    rfl
  · have hj' : j < s.size := by simpa using hj
    unfold World.frozen?
    rw [hold]
    simp; omega

theorem BRow.drew {b : Nat} {l : List UInt8} {wr : World} (h : BRow b l wr) : BRow b l wr.drew := h
theorem BRow.drewN {b : Nat} {l : List UInt8} {wr : World} (h : BRow b l wr) (n : Nat) : BRow b l (wr.drewN n) := h

theorem BRow.put {b : Nat} {l : List UInt8} {wr : World} (h : BRow b l wr) (k : Nat) (hk : k < l.length) (v : UInt8) : BRow b (l.set k v) (wr.setCell ⟨b, k, none⟩ (.int .u8 (v.toNat : Int))) := by
  refine ⟨fun j hj => ?_, fun j hj => ?_⟩
  · have hj' : j < l.length := by simpa using hj
    rw [List.getElem_set]
    by_cases e : j = k
    · subst e
      rw [if_pos rfl]
      exact World.cell?_setCell_same _ _ _ (h.1 j hj')
    · rw [if_neg (fun h => e h.symm), World.cell?_setCell_other _ _ _ _ (by first | (simp; done) | (simp; omega))]
      exact h.1 j hj'
  · rw [World.frozen?_setCell]
    exact h.2 j (by simpa using hj)

theorem BRow.back {b : Nat} {l : List UInt8} {wr : World} (h : BRow b l wr) (cap n : Nat) (hn : n = l.length) :
    (convert 48 9 (.slice (some ⟨b, 0, none⟩) n cap)).run Try.prog wr = .ok (.string ⟨l.toArray⟩) wr := by
  rw [hn]
  exact back_of l h.1

theorem zip_get (l m : List UInt8) (k : Nat) (hl : k < l.length) (hm : k < m.length) : (Rc3.zip l m)[k]'(by unfold Rc3.zip; rw [List.length_zipWith]; omega) = l[k] ^^^ m[k] := by
  unfold Rc3.zip
  rw [List.getElem_zipWith]

theorem mix_set (a z : List UInt8) (k : Nat) (hz : z.length = a.length) (hk : k < a.length) : (z.take k ++ a.drop k).set k (z[k]'(by omega)) = z.take (k + 1) ++ a.drop (k + 1) := by
  rw [List.drop_eq_getElem_cons hk, List.set_append_right _ _ (by simp; omega), List.length_take, show k - min k z.length = 0 by omega, List.set_cons_zero, List.take_succ_eq_append_getElem (by omega), List.append_assoc]
  rfl

theorem mix_length (a z : List UInt8) (k : Nat) (hz : z.length = a.length) : (z.take k ++ a.drop k).length = a.length := by
  rw [List.length_append, List.length_take, List.length_drop]
  omega

theorem mix_at (a z : List UInt8) (k : Nat) (hz : z.length = a.length) (hk : k < a.length) : (z.take k ++ a.drop k)[k]'(by rw [mix_length a z k hz]; exact hk) = a[k] := by
  rw [List.getElem_append_right (by simp; omega)]
  simp only [List.length_take, List.getElem_drop]
  congr 1
  omega

def Turned (o : List UInt8) (p n k : Nat) (l : List UInt8) : Prop := l.length = o.length ∧ Rc2.say l = Rc2.say o ^^^ n % 2 ^ k * 2 ^ p

theorem Turned.start (o : List UInt8) (p n : Nat) : Turned o p n 0 o := ⟨rfl, by simp [Nat.mod_one]⟩

theorem Turned.pass {o l : List UInt8} {p n k : Nat} (h : Turned o p n k l) (hb : n / 2 ^ k % 2 = 0) : Turned o p n (k + 1) l ∧ n % 2 ^ (k + 1) = n % 2 ^ k := by
  have e : n % 2 ^ (k + 1) = n % 2 ^ k := by rw [Nat.pow_succ, Nat.mod_mul, hb]; omega
  exact ⟨⟨h.1, by rw [e]; exact h.2⟩, e⟩

theorem low_xor (x k : Nat) (h : x < 2 ^ k) : x + 2 ^ k = x ^^^ 2 ^ k := by
  have h2 : x ^^^ 2 ^ k = 1 * 2 ^ k ||| x := by
    apply Nat.eq_of_testBit_eq
    intro i
    rw [Nat.one_mul, Nat.testBit_xor, Nat.testBit_or, Nat.testBit_two_pow]
    by_cases hi : k = i
    · subst hi
      have : x.testBit k = false := Nat.testBit_lt_two_pow h
      simp [this]
    · simp [hi]
  have h3 := Nat.shiftLeft_add_eq_or_of_lt h 1
  rw [Nat.shiftLeft_eq] at h3
  rw [h2, ← h3]
  omega

theorem mod_more {n k : Nat} (hb : n / 2 ^ k % 2 = 1) : n % 2 ^ (k + 1) = n % 2 ^ k ^^^ 2 ^ k := by
  have hlt : n % 2 ^ k < 2 ^ k := Nat.mod_lt _ (Nat.two_pow_pos k)
  rw [← low_xor _ k hlt, Nat.pow_succ, Nat.mod_mul, hb, Nat.mul_one]

theorem mod_more_ne {n k : Nat} (hb : n / 2 ^ k % 2 = 1) : n % 2 ^ (k + 1) ≠ 0 := by
  rw [Nat.pow_succ, Nat.mod_mul, hb, Nat.mul_one]
  have := Nat.two_pow_pos k
  omega

theorem Turned.turn {o l : List UInt8} {p n k : Nat} (h : Turned o p n k l) (hb : n / 2 ^ k % 2 = 1) (hi : (p + k) / 8 < l.length) :
    Turned o p n (k + 1) (l.set ((p + k) / 8) (UInt8.ofNat ((l[(p + k) / 8]).toNat ^^^ 2 ^ ((p + k) % 8)))) := by
  refine ⟨by rw [List.length_set]; exact h.1, ?_⟩
  have hy : 2 ^ ((p + k) % 8) < 256 := Nat.pow_lt_pow_right (a := 2) (by decide) (m := (p + k) % 8) (n := 8) (by omega)
  rw [Rc3.say_set l _ hi _ hy, h.2, mod_more hb, ← Nat.pow_add, show (p + k) % 8 + 8 * ((p + k) / 8) = k + p by omega, Nat.xor_assoc]
  congr 1
  have := Nat.shiftLeft_xor_distrib (a := n % 2 ^ k) (b := 2 ^ k) (i := p)
  rw [Nat.shiftLeft_eq, Nat.shiftLeft_eq, Nat.shiftLeft_eq, ← Nat.pow_add] at this
  exact this.symm

theorem Turned.none {o l : List UInt8} {p n k : Nat} (h : Turned o p n k l) (h0 : n % 2 ^ k = 0) : l = o := by
  obtain ⟨h1, h2⟩ := h
  rw [h0, Nat.zero_mul, Nat.xor_zero] at h2
  rw [← Rc2.put_say l, ← Rc2.put_say o, h1, h2]

theorem Turned.some {s : ByteArray} {l : List UInt8} {p n k : Nat} (h : Turned (sealedB s).data.toList p n k l) (hn : n < 4294967296) (h0 : n % 2 ^ k ≠ 0) (hp : p ≤ 8 * l.length) :
    Rc2.get (behind ⟨l.toArray⟩).data.toList ≠ Rc3.crc (ahead ⟨l.toArray⟩).data.toList := by
  intro e
  have hz : (sealedB s).data.toList.length = s.size + 4 := by
    have := sealed_size s
    simpa using this
  have hsz : (ByteArray.mk l.toArray).size = l.length := by
    show l.toArray.size = _
    simp
  have e1 := (sealed_test ⟨l.toArray⟩ (by rw [hsz, h.1, hz]; omega)).1 e
  have e2 : (ahead ⟨l.toArray⟩).data.toList ++ Rc2.put 4 (Rc3.crc (ahead ⟨l.toArray⟩).data.toList) = l := by
    rw [← sealed_list, e1]
  have r1 := (Rc3.sealed_iff (ahead ⟨l.toArray⟩).data.toList _ (Rc2.put_length 4 _)).2 rfl
  rw [e2] at r1
  have r2 := (Rc3.sealed_iff s.data.toList _ (Rc2.put_length 4 _)).2 rfl
  rw [← sealed_list] at r2
  have r3 := Rc3.reg_turned 4294967295 _ l _ h.1 h.2
  rw [r1, r2, ← h.1] at r3
  have r4 : Rc3.it (8 * l.length) (n % 2 ^ k * 2 ^ p) = 0 := by
    have := congrArg (fun y => Rc3.it 32 4294967295 ^^^ y) r3
    simp only [Nat.xor_self, ← Nat.xor_assoc, Nat.zero_xor] at this
    exact this.symm
  exact Rc3.turned_ne l.length p (n % 2 ^ k) (Nat.lt_of_le_of_lt (Nat.mod_le _ _) hn) h0 hp r4

theorem Take_turned {s : ByteArray} {l : List UInt8} {p n k : Nat} (h : Turned (sealedB s).data.toList p n k l) (hs : s.size ≤ 2000) (hn : n < 4294967296) (h0 : n % 2 ^ k ≠ 0) (hp : p ≤ 8 * l.length) (w : World) :
    Calls Try.prog 37 #[.string ⟨l.toArray⟩] w fun e w' => e = .returned (.tuple #[.string ⟨#[]⟩, .int .i64 9]) ∧ Below w.heap.size w w' := by
  have hz : (sealedB s).data.toList.length = s.size + 4 := by
    have := sealed_size s
    simpa using this
  have hsz : (ByteArray.mk l.toArray).size = l.length := by
    show l.toArray.size = _
    simp
  have hl := h.1
  exact Take_bad _ (by rw [hsz, hl, hz]; omega) (by rw [hsz, hl, hz]; unfold maxLen; omega) (h.some hn h0 hp) w

theorem Take_whole {s : ByteArray} {l : List UInt8} {p n k : Nat} (h : Turned (sealedB s).data.toList p n k l) (hs : s.size ≤ 2000) (h0 : n % 2 ^ k = 0) (w : World) :
    Calls Try.prog 37 #[.string ⟨l.toArray⟩] w fun e w' => e = .returned (.tuple #[.string s, .int .i64 0]) ∧ Below w.heap.size w w' := by
  rw [h.none h0]
  exact Take_sealed s (by unfold maxLen; omega) w

def noughts : ByteArray := ⟨(List.replicate 64 (0 : UInt8)).toArray⟩

theorem noughts_size : noughts.size = 64 := by
  show (List.replicate 64 (0 : UInt8)).toArray.size = 64
  simp

theorem noughts_list : noughts.data.toList = List.replicate 64 0 := by
  unfold noughts
  simp only

theorem crc_noughts : Rc3.crc (List.replicate 60 0) ≠ 0 := by decide +kernel

set_option maxRecDepth 100000 in
theorem noughts_unsealed : sealedB (ahead noughts) ≠ noughts := by
  intro e
  have h1 := congrArg (fun s : ByteArray => s.data.toList) e
  simp only [sealed_list, list_ahead] at h1
  have h2 := noughts_list
  have h3 := noughts_size
  rw [h2, h3] at h1
  have h4 : (List.replicate 64 (0 : UInt8)).take (64 - 4) = List.replicate 60 0 := by decide
  rw [h4] at h1
  have h5 : (List.replicate 64 (0 : UInt8)) = List.replicate 60 0 ++ List.replicate 4 0 := by decide
  rw [h5] at h1
  have h6 := List.append_cancel_left h1
  have h7 := congrArg Rc2.say h6
  rw [Rc3.say_put4 _ (Rc3.crc_lt _)] at h7
  exact crc_noughts h7

theorem noughts_none : ¬ ∃ h : Hd, h.Ok ∧ hdB h = noughts := not_head 0 (by decide) 0 (by rw [noughts_list, List.getElem?_replicate, if_pos (by decide)]) (by decide)

set_option maxRecDepth 100000 in
theorem Take_noughts (w : World) : Calls Try.prog 16 #[.string noughts] w fun e w' => e = .returned (.tuple #[.agg #[.int .u64 0, .int .i64 0, .int .i64 0, .slice none 0 0], .int .i64 9]) ∧ Below w.heap.size w w' :=
  Take_sum noughts noughts_size noughts_unsealed w

theorem Choose_noughts (w : World) : Calls Try.prog 18 #[.string noughts, .string noughts] w fun e w' => ∃ a c, e = .returned (.tuple #[.agg #[.int .u64 0, .int .i64 0, .int .i64 0, .slice a 0 c], .int .i64 0, .int .i64 2]) ∧ Below w.heap.size w w' := by
  have h := Choose_all noughts noughts w
  unfold ChoseAt at h
  have e := takeErr_ne noughts
  rw [took_no noughts_none] at h
  generalize takeErr noughts = er at h e
  rw [choice_none (x := ⟨0, 0, 0, [], er⟩) (y := ⟨0, 0, 0, [], er⟩) e e] at h
  refine h.mono ?_
  rintro e w' ⟨v, rfl, hf⟩
  obtain ⟨a, c, rfl, _, hb⟩ := row_of2 hf
  exact ⟨a, c, rfl, hb⟩

/-- Some head, or none, and an error. -/
def SomeAt (er : Int) (w : World) (e : Ending) (w' : World) : Prop :=
  ∃ (g s z : Int) (a : Option Addr) (n c : Nat), e = .returned (.tuple #[.agg #[.int .u64 g, .int .i64 s, .int .i64 z, .slice a n c], .int .i64 er]) ∧ Below w.heap.size w w'

theorem text_at (h : Hd) (k : Nat) (hk : k < 4) : ∃ x : UInt8, (text h)[k]? = some x ∧ magic[k]? = some x := by
  obtain ⟨r, hr⟩ := text_magic h
  rw [hr, List.getElem?_append_left (by exact hk)]
  have : k < magic.length := hk
  exact ⟨magic[k], List.getElem?_eq_getElem this, List.getElem?_eq_getElem this⟩

/-- A head's text, a byte of its first four another one, sealed again. -/
theorem Take_other (h : Hd) (k : h.Ok) (j : Nat) (hj : j < 4) (x : UInt8) (w : World) :
    Calls Try.prog 16 #[.string (sealedB ⟨((text h).set j x).toArray⟩)] w (SomeAt (if (text h)[j]? = some x then 0 else 2) w) := by
  have hl : (text h).length = 60 := text_length h k.few
  by_cases e : (text h)[j]? = some x
  · rw [if_pos e]
    have hs : (text h).set j x = text h := by
      apply List.ext_getElem?
      intro i
      rw [List.getElem?_set]
      by_cases hi : j = i
      · subst hi
        rw [if_pos rfl, if_pos (by omega), e]
      · rw [if_neg hi]
    rw [hs]
    refine (Take_yes h k w).mono ?_
    rintro e w' ⟨v, rfl, hf⟩
    obtain ⟨a, c, rfl, _, hb⟩ := row_of2 hf
    exact ⟨_, _, _, a, _, c, rfl, hb⟩
  · rw [if_neg e]
    refine (Take_form ⟨((text h).set j x).toArray⟩ ?_ ?_ w).mono ?_
    · show ((text h).set j x).toArray.size = 60
      rw [List.size_toArray, List.length_set, hl]
    · refine not_head j hj x ?_ ?_
      · rw [sealed_list, List.getElem?_append_left]
        · show ((text h).set j x)[j]? = some x
          rw [List.getElem?_set_self (by omega)]
        · show j < ((text h).set j x).length
          rw [List.length_set, hl]
          omega
      · obtain ⟨y, h1, h2⟩ := text_at h j hj
        rw [h2]
        rw [h1] at e
        exact e
    · rintro e w' ⟨rfl, hb⟩
      exact ⟨_, _, _, none, _, 0, rfl, hb⟩

theorem head_text (h : Hd) (k : h.Ok) : (hdB h).extract 0 60 = ⟨(text h).toArray⟩ := by
  apply ext_list
  rw [extract_take]
  show List.take 60 (hdB h).data.toList = text h
  unfold hdB
  rw [sealed_list, show (ByteArray.mk (text h).toArray).data.toList = text h from rfl, List.take_left' (text_length h k.few)]

theorem BRow.made (w : World) (n : Nat) : BRow w.heap.size (List.replicate n 0) (w.alloc (.cells (List.replicate n (.int .u8 0)).toArray 5)) := by
  refine ⟨fun j hj => ?_, fun j hj => ?_⟩
  · rw [World.cell?_alloc_new]
    have hj' : j < n := by simpa using hj
    simp [hj']
  · exact Lib.frozen_of_heap (heap_alloc_new w _) j

theorem BRow.later {b : Nat} {l : List UInt8} {w w' : World} (h : BRow b l w) (hlt : b < w.heap.size) (hb : Below w.heap.size w w') : BRow b l w' := by
  have e : w'.heap[b]? = w.heap[b]? := hb.block b hlt
  refine ⟨fun j hj => ?_, fun j hj => ?_⟩
  · rw [hb.cell (by exact hlt)]
    exact h.1 j hj
  · have := h.2 j hj
    unfold World.frozen? at this ⊢
    rw [e]
    exact this

end Go.Proofs.Ytnknojkihjpjkaa
