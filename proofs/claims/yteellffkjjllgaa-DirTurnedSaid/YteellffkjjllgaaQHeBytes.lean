/-
  Small words on bytes in memory for the laws of layer 3. Conditions: none.
-/
import Derived.Test.YteellffkjjllgaaQHeLaw
namespace Go.Proofs.Yteellffkjjllgaa
open Go.RowKit

theorem back_of {w : World} {b cap : Nat} (l : List UInt8) (h : ∀ j (hj : j < l.length), w.cell? ⟨b, j, none⟩ = some (.int .u8 ((l[j]).toNat : Int))) :
    (convert 54 9 (.slice (some ⟨b, 0, none⟩) l.length cap)).run Try.prog w = .ok (.string ⟨l.toArray⟩) w := by
  refine run_convert_bytes_back (P := Try.prog) w 54 9 5 ⟨b, 0, none⟩ cap l Try.underlying54 Try.underlying5 Try.underlying9 (fun j hj => ?_)
  have := h j hj
  by_cases e0 : j = 0
  · subst e0; simpa [Addr.add] using this
  · simpa [Addr.add, e0] using this

theorem back_one (w : World) (c : Nat) (hc : c < 256) :
    (convert 54 9 (.slice (some ⟨w.heap.size, 0, none⟩) 1 1)).run Try.prog (w.alloc (.cells #[.int .u8 (c : Int)] 5 (0, 0))) = .ok (.string ⟨#[UInt8.ofNat c]⟩) (w.alloc (.cells #[.int .u8 (c : Int)] 5 (0, 0))) := by
  refine back_of (b := w.heap.size) (cap := 1) [UInt8.ofNat c] (fun j hj => ?_)
  rw [World.cell?_alloc_new]
  match j, hj with
  | 0, _ =>
    have e : (UInt8.ofNat c).toNat = c := by rw [UInt8.toNat_ofNat']; omega
    show some (Value.int .u8 (c : Int)) = some (.int .u8 ((UInt8.ofNat c).toNat : Int))
    rw [e]

theorem back_four (w : World) (n : Nat) :
    (convert 54 9 (.slice (some ⟨w.heap.size, 0, none⟩) 4 4)).run Try.prog (w.alloc (.cells #[.int .u8 ((n : Int) % 256), .int .u8 ((n : Int) / 256 % 256), .int .u8 ((n : Int) / 65536 % 256), .int .u8 ((n : Int) / 16777216 % 256)] 5 (0, 0)))
      = .ok (.string ⟨(Rc2.put 4 n).toArray⟩) (w.alloc (.cells #[.int .u8 ((n : Int) % 256), .int .u8 ((n : Int) / 256 % 256), .int .u8 ((n : Int) / 65536 % 256), .int .u8 ((n : Int) / 16777216 % 256)] 5 (0, 0))) := by
  have h := back_of (w := w.alloc (.cells #[.int .u8 ((n : Int) % 256), .int .u8 ((n : Int) / 256 % 256), .int .u8 ((n : Int) / 65536 % 256), .int .u8 ((n : Int) / 16777216 % 256)] 5 (0, 0))) (b := w.heap.size) (cap := 4) (Rc2.put 4 n) (fun j hj => ?_)
  · rw [Rc2.put_length] at h
    exact h
  · rw [World.cell?_alloc_new]
    have hj4 : j < 4 := by rw [Rc2.put_length] at hj; exact hj
    have h2 := Rc2.put_get 4 n j hj4
    rw [List.getElem?_eq_getElem hj] at h2
    rw [Option.some.inj h2, UInt8.toNat_ofNat', Int.natCast_emod, Int.natCast_ediv]
    match j, hj4 with
    | 0, _ => simp
    | 1, _ => simp
    | 2, _ => simp
    | 3, _ => simp

/-- A row of bytes in one block. -/
def BRow (b : Nat) (l : List UInt8) (wr : World) : Prop :=
  (∀ j (hj : j < l.length), wr.cell? ⟨b, j, none⟩ = some (.int .u8 ((l[j]).toNat : Int))) ∧ ∀ j, j < l.length → wr.frozen? ⟨b, j, none⟩ = false

theorem BRow.start (w : World) (s : ByteArray) (cap : Nat) : BRow w.heap.size s.data.toList ((w.alloc (.cells (bytesRow s cap) 5 ((bytesRow s cap).size, (bytesRow s cap).size + 1))).drew) := by
  have hsz : s.size ≤ (bytesRow s cap).size := by
    have : s.data.size = s.size := rfl
    first | (simp [bytesRow]; done) | (simp [bytesRow]; omega)
  have hold : ((w.alloc (.cells (bytesRow s cap) 5 ((bytesRow s cap).size, (bytesRow s cap).size + 1))).drew).heap[w.heap.size]? = some (.cells (bytesRow s cap) 5 ((bytesRow s cap).size, (bytesRow s cap).size + 1)) := (MapKept.heap_alloc w _).1
  refine ⟨fun j hj => ?_, fun j hj => ?_⟩
  · have hj' : j < s.size := by simpa using hj
    rw [Lib.cell_of_heap hold, bytesRow_at s cap j hj']
    rfl
  · have hj' : j < s.size := by simpa using hj
    unfold World.frozen?
    rw [hold]
    simp; omega

theorem BRow.drew {b : Nat} {l : List UInt8} {wr : World} (h : BRow b l wr) : BRow b l wr.drew := h
theorem BRow.drewN {b : Nat} {l : List UInt8} {wr : World} (h : BRow b l wr) (n : Nat) : BRow b l (wr.drewN n) := h

theorem BRow.put {b : Nat} {l : List UInt8} {wr : World} (h : BRow b l wr) (k : Nat) (hk : k < l.length) (v : UInt8) : BRow b (l.set k v) (wr.setCell ⟨b, k, none⟩ (.int .u8 (v.toNat : Int))) := by
  refine ⟨fun j hj => ?_, fun j hj => ?_⟩
  · have hj' : j < l.length := by simpa using hj
    rw [List.getElem_set]
    by_cases e : j = k
    · subst e
      rw [if_pos rfl]
      exact World.cell?_setCell_same _ _ _ (h.1 j hj')
    · rw [if_neg (fun h => e h.symm), World.cell?_setCell_other _ _ _ _ (by first | (simp; done) | (simp; omega))]
      exact h.1 j hj'
  · rw [World.frozen?_setCell]
    exact h.2 j (by simpa using hj)

theorem BRow.back {b : Nat} {l : List UInt8} {wr : World} (h : BRow b l wr) (cap n : Nat) (hn : n = l.length) :
    (convert 54 9 (.slice (some ⟨b, 0, none⟩) n cap)).run Try.prog wr = .ok (.string ⟨l.toArray⟩) wr := by
  rw [hn]
  exact back_of l h.1

theorem zip_get (l m : List UInt8) (k : Nat) (hl : k < l.length) (hm : k < m.length) : (Rc3.zip l m)[k]'(by unfold Rc3.zip; rw [List.length_zipWith]; omega) = l[k] ^^^ m[k] := by
  unfold Rc3.zip
  rw [List.getElem_zipWith]

theorem mix_set (a z : List UInt8) (k : Nat) (hz : z.length = a.length) (hk : k < a.length) : (z.take k ++ a.drop k).set k (z[k]'(by omega)) = z.take (k + 1) ++ a.drop (k + 1) := by
  rw [List.drop_eq_getElem_cons hk, List.set_append_right _ _ (by simp; omega), List.length_take, show k - min k z.length = 0 by omega, List.set_cons_zero, List.take_succ_eq_append_getElem (by omega), List.append_assoc]
  rfl

theorem mix_length (a z : List UInt8) (k : Nat) (hz : z.length = a.length) : (z.take k ++ a.drop k).length = a.length := by
  rw [List.length_append, List.length_take, List.length_drop]
  omega

theorem mix_at (a z : List UInt8) (k : Nat) (hz : z.length = a.length) (hk : k < a.length) : (z.take k ++ a.drop k)[k]'(by rw [mix_length a z k hz]; exact hk) = a[k] := by
  rw [List.getElem_append_right (by simp; omega)]
  simp only [List.length_take, List.getElem_drop]
  congr 1
  omega

end Go.Proofs.Yteellffkjjllgaa
