/-
  Small words for walking a law: contracts that hold from one world on, a number's kind, and a row of numbers that came in. Conditions: none.
-/
import Derived.Test.YtnknojkihjpjkaaRows
import Derived.Test.YtnknojkihjpjkaaChecked
import Derived.Below
import Derived.Lib.Hide
import Derived.WalkSpells
import Derived.WalkKit
import Derived.ProofKit
import Derived.OpenShut
import Derived.ShutString
import Derived.ChangeOld
import Derived.Deep.QuietTactic
namespace Go.Proofs.Ytnknojkihjpjkaa
open Go.ChangeShapes Go.WideShapes Go.ChangeAt Go.RowKit

theorem own : ownKnob Try.prog.godebug = none := by kernel_rfl
theorem laidOut : laidOutB Try.prog = true := by kernel_rfl

def IsRow (k : IntKind) (w : World) (a : Option Addr) (len cap : Nat) (zs : List Int) : Prop :=
  (a = none ∧ len = 0 ∧ cap = 0 ∧ zs = []) ∨
  ∃ x, a = some x ∧ len ≤ cap ∧ cap ≤ maxLen ∧ zs.length = cap ∧ (∀ i, i < zs.length → w.cell? (x.add i) = some (.int k (zs.getD i 0))) ∧ ∀ n ∈ zs, (Lit.int k n).wf = true

theorem below_trans {u v w : World} (h : Below u.heap.size u v) (k : Below v.heap.size v w) : Below u.heap.size u w := h.trans (k.mono h.size)

theorem ba {u v : World} (h : Below u.heap.size u v) (o : Obj) : Below u.heap.size u (v.alloc o) := h.alloc h.size o

theorem rel {f : Nat} {args : Array Value} {E : Ending} (h : ∀ w, Calls Try.prog f args w fun e w' => e = E ∧ Below w.heap.size w w') (w : World) : ∀ w1, Below w.heap.size w w1 → Calls Try.prog f args w1 fun e w' => e = E ∧ Below w.heap.size w w' :=
  fun w1 hb => (h w1).mono fun _ _ ⟨he, hw⟩ => ⟨he, below_trans hb hw⟩

theorem relS {f : Nat} {args : Array Value} {E : Ending} (h : ∀ w, Calls Try.prog f args w fun e w' => e = E ∧ w = w') (w : World) : ∀ w1, Below w.heap.size w w1 → Calls Try.prog f args w1 fun e w' => e = E ∧ Below w.heap.size w w' :=
  fun w1 hb => (h w1).mono fun _ _ ⟨he, hw⟩ => ⟨he, hw ▸ hb⟩

theorem extract_take (s : ByteArray) (k : Nat) : s.extract 0 k = ⟨(s.data.toList.take k).toArray⟩ := by
  apply ByteArray.ext
  rw [ByteArray.data_extract]
  apply Array.ext'
  rw [Array.toList_extract, List.extract_eq_take_drop]
  simp

theorem extract_all (s : ByteArray) : s.extract 0 s.size = s := by
  rw [extract_take]
  apply ByteArray.ext
  apply Array.ext'
  exact List.take_of_length_le (by simp)

theorem row_block {w : World} {a : Addr} {v : Value} (h : w.cell? a = some v) : a.block < w.heap.size := by
  by_cases hlt : a.block < w.heap.size
  · exact hlt
  · have hn : w.heap[a.block]? = none := by simp; omega
    simp [World.cell?, hn] at h

theorem nat_of32 {a : Int} (h : (Lit.int .u32 a).wf = true) : ∃ n : Nat, a = (n : Int) ∧ n < 4294967296 := by
  simp only [Lit.wf, Bool.and_eq_true, decide_eq_true_eq] at h
  have h' : 0 ≤ a ∧ a ≤ 4294967295 := h
  exact ⟨a.toNat, by omega, by omega⟩

theorem nat_of8 {a : Int} (h : (Lit.int .u8 a).wf = true) : ∃ n : Nat, a = (n : Int) ∧ n < 256 := by
  simp only [Lit.wf, Bool.and_eq_true, decide_eq_true_eq] at h
  have h' : 0 ≤ a ∧ a ≤ 255 := h
  exact ⟨a.toNat, by omega, by omega⟩

theorem nat_of {a : Int} (h : (Lit.int .u64 a).wf = true) : ∃ n : Nat, a = (n : Int) ∧ n < 18446744073709551616 := by
  simp only [Lit.wf, Bool.and_eq_true, decide_eq_true_eq] at h
  have h' : 0 ≤ a ∧ a ≤ 18446744073709551615 := h
  exact ⟨a.toNat, by omega, by omega⟩

/-- A region that draws its order, whose operations only read and whose callees make at most new memory: walked once, in the text's order. -/
theorem wp_region_below {id : Nat} {Q : Exit → Act → World → Prop} {a : Act} {w0 w : World} {l : List Oper} (hb : Below w0.heap.size w0 w) (hm : Try.prog.follows .mixedOrders = true) (hB : Region.lexB .any l.toArray = true)
    (h : wpQuiet Try.prog l.toArray (fun w' => Below w0.heap.size w0 w') (fun a' => ∀ w', Below w0.heap.size w0 w' → Q .normal a' w') l a) : (Code.region id l.toArray true).wp Try.prog Q a w :=
  wp_region_quiet (C := fun w' => Below w0.heap.size w0 w') hm hB ⟨hb.os, hb.tape, hb.output, hb.size, hb.block⟩ (by simpa using h)

end Go.Proofs.Ytnknojkihjpjkaa
