/-
  What Take answers in one word, the program's and the document's; the chapter's examples. Condition: each text has at most as many bytes as a text may have.
-/
import Derived.Test.YteellffkjjllgaaGreatQHeRef
import Derived.Test.YteellffkjjllgaaGreatG3
namespace Go.Proofs.YteellffkjjllgaaGreat
open Go.RowKit

open Classical in
noncomputable def tkT (s : ByteArray) : ByteArray := if s.size < 4 then ⟨#[]⟩ else if sealedB (ahead s) = s then ahead s else ⟨#[]⟩
open Classical in
noncomputable def tkE (s : ByteArray) : Int := if s.size < 4 then 10 else if sealedB (ahead s) = s then 0 else 9

theorem ext_list {a b : ByteArray} (h : a.data.toList = b.data.toList) : a = b := ByteArray.ext (Array.ext' h)

theorem list_append (a b : ByteArray) : (a ++ b).data.toList = a.data.toList ++ b.data.toList := by simp

theorem list_ahead (s : ByteArray) : (ahead s).data.toList = s.data.toList.take (s.size - 4) := by
  unfold ahead
  rw [extract_take]

theorem list_behind (s : ByteArray) : (behind s).data.toList = s.data.toList.drop (s.size - 4) := by
  unfold behind
  rw [ByteArray.data_extract, Array.toList_extract, List.extract_eq_take_drop, List.take_of_length_le (by simp)]

theorem list_both (s : ByteArray) : (ahead s).data.toList ++ (behind s).data.toList = s.data.toList := by
  rw [list_ahead, list_behind, List.take_append_drop]

theorem behind_len (s : ByteArray) (h : 4 ≤ s.size) : (behind s).data.toList.length = 4 := by
  rw [list_behind, List.length_drop]
  simp
  omega

theorem sealed_list (s : ByteArray) : (sealedB s).data.toList = s.data.toList ++ Rc2.put 4 (Rc3.crc s.data.toList) := by
  unfold sealedB
  rw [list_append]

theorem sealed_size (s : ByteArray) : (sealedB s).size = s.size + 4 := by
  unfold sealedB
  rw [ByteArray.size_append, size_put]

theorem get4 (m : List UInt8) (h : m.length = 4) : Rc2.get m = Rc2.say m := by
  unfold Rc2.get
  rw [List.take_of_length_le (by omega)]

theorem sealed_test (s : ByteArray) (h : 4 ≤ s.size) : Rc2.get (behind s).data.toList = Rc3.crc (ahead s).data.toList ↔ sealedB (ahead s) = s := by
  have hl := behind_len s h
  rw [get4 _ hl]
  constructor
  · intro e
    apply ext_list
    rw [sealed_list, ← e, ← hl, Rc2.put_say, list_both]
  · intro e
    have e2 : (ahead s).data.toList ++ Rc2.put 4 (Rc3.crc (ahead s).data.toList) = (ahead s).data.toList ++ (behind s).data.toList := by
      rw [← sealed_list, e, list_both]
    rw [← List.append_cancel_left e2, Rc3.say_put4 _ (Rc3.crc_lt _)]

theorem Take_any (s : ByteArray) (hs : s.size ≤ maxLen) (w : World) :
    Calls Tryz.prog 14 #[.string s] w fun e w' => e = .returned (.tuple #[.string (tkT s), .int .i64 (tkE s)]) ∧ Below w.heap.size w w' := by
  unfold tkT tkE
  by_cases h : s.size < 4
  · rw [if_pos h, if_pos h]
    exact Take_short s h w
  · rw [if_neg h, if_neg h]
    by_cases h2 : sealedB (ahead s) = s
    · rw [if_pos h2, if_pos h2]
      exact Take_good s (by omega) hs ((sealed_test s (by omega)).2 h2) w
    · rw [if_neg h2, if_neg h2]
      exact Take_bad s (by omega) hs (fun e => h2 ((sealed_test s (by omega)).1 e)) w

theorem ahead_sealed (s : ByteArray) : ahead (sealedB s) = s := by
  apply ext_list
  rw [list_ahead, sealed_size, sealed_list, show s.size + 4 - 4 = s.data.toList.length by simp, List.take_left']
  rfl

theorem tk_sealed (s : ByteArray) : tkT (sealedB s) = s ∧ tkE (sealedB s) = 0 := by
  unfold tkT tkE
  have h : ¬ (sealedB s).size < 4 := by rw [sealed_size]; omega
  rw [ahead_sealed, if_neg h, if_neg h, if_pos rfl, if_pos rfl]
  exact ⟨rfl, rfl⟩

theorem Take_sealed (s : ByteArray) (hs : s.size + 4 ≤ maxLen) (w : World) :
    Calls Tryz.prog 14 #[.string (sealedB s)] w fun e w' => e = .returned (.tuple #[.string s, .int .i64 0]) ∧ Below w.heap.size w w' := by
  have h := Take_any (sealedB s) (by rw [sealed_size]; exact hs) w
  rw [(tk_sealed s).1, (tk_sealed s).2] at h
  exact h

theorem ex_sum : Rc3.crc [49, 50, 51, 52, 53, 54, 55, 56, 57] = 3421780262 := by decide +kernel
theorem ex_nil : Rc3.crc [] = 0 := by decide +kernel

end Go.Proofs.YteellffkjjllgaaGreat
