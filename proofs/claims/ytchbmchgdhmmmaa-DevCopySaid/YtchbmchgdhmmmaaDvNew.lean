/-
  What New makes: a device of noughts, or an error. Conditions: none beyond what each theorem states.
-/
import Derived.Test.YtchbmchgdhmmmaaDvClone
import Derived.Test.YtchbmchgdhmmmaaDvSec
import Derived.IntWalk
namespace Go.Rc4

def nought : ByteArray := ⟨(List.replicate 64 (0 : UInt8)).toArray⟩

def DS.new (n : Nat) : DS := ⟨List.replicate n nought, List.replicate n nought, [], -1, false⟩

theorem Ok.new (n : Nat) (h : 0 < n) (h2 : n ≤ 8192) : Ok (DS.new n) :=
  ⟨rfl, by intro x hx; simp [DS.new] at hx, by simp [DS.new]; omega, by simp [DS.new]; omega, by simp [DS.new], rfl⟩

end Go.Rc4
namespace Go.Proofs.Ytchbmchgdhmmmaa
open Go.RowKit Go.Rc4

/-- A row of n texts in one block, the first m of which are t. -/
def TRow (g n m : Nat) (t : ByteArray) (w : World) : Prop := ∃ C : Array Value, w.heap[g]? = some (.cells C 9 (0, 0)) ∧ C.size = n ∧ ∀ j, j < m → C[j]? = some (.string t)

theorem TRow.own {g n base : Nat} {t : ByteArray} {w : World} (h : TRow g n n t w) (hb : base ≤ g) (hn : n ≤ 8192) : w.ownsRow base 9 1 (.slice (some ⟨g, 0, none⟩) n n) n (strs (List.replicate n t)) := by
  obtain ⟨C, hg, hs, hc⟩ := h
  refine ⟨by simp [strs], .inr ⟨g, n, C, rfl, hb, hg, Nat.le_refl _, by unfold maxLen; omega, by omega, ?_⟩⟩
  apply List.ext_getElem?
  intro j
  rw [List.getElem?_take]
  by_cases hj : j < n
  · rw [if_pos (by omega), Array.getElem?_toList, hc j hj, strs_get _ _ (by simpa using hj)]
    simp [List.getD_eq_getElem?_getD, hj]
  · rw [if_neg (by omega), List.getElem?_eq_none (by rw [strs_length, List.length_replicate]; omega)]

/-- 'copy' of texts that are t onto the places of a row behind those that are t. -/
theorem run_copy_t {w : World} {g n m c sn sc dc : Nat} {t : ByteArray} {a : Addr} (ty : TypeId) (h : TRow g n m t w) (hc : c = Nat.min sn (n - m)) (hm : m + c ≤ n) (hsrc : ∀ j, j < c → w.cell? (a.add j) = some (.string t)) :
    ∃ C, (Builtin.copy_ #[54, 54] ty #[.slice (some ⟨g, m, none⟩) (n - m) dc, .slice (some a) sn sc]).run Try.prog w = .ok (.int .i64 c) (w.setRow g C) ∧ TRow g n (m + c) t (w.setRow g C) := by
  obtain ⟨C, hg, hs, hC⟩ := h
  have hr := run_copy_row (P := Try.prog) w 54 54 ty 9 g m (n - m) dc a sn sc C 9 (List.replicate c (.string t)) Try.underlying54 (by kernel_rfl) hg (by rw [List.length_replicate]; exact hc)
    (fun j v hv => by rw [List.getElem?_replicate] at hv; split at hv <;> simp_all) (by rw [List.length_replicate, hs]; exact hm) (by intro v hv; rw [List.mem_replicate] at hv; rw [hv.2]; rfl)
  rw [List.length_replicate] at hr
  refine ⟨_, hr, _, setRow_heap w g C _ 9 _ hg, ?_, ?_⟩
  · simp [hs]; omega
  · intro j hj
    rw [List.getElem?_toArray]
    by_cases h1 : j < m
    · rw [List.append_assoc, List.getElem?_append_left (by simp [hs]; omega), List.getElem?_take, if_pos h1, Array.getElem?_toList]
      exact hC j h1
    · rw [List.getElem?_append_left (by simp [hs]; omega), List.getElem?_append_right (by simp [hs]; omega), List.getElem?_replicate, if_pos (by simp [hs]; omega)]

set_option maxHeartbeats 4000000 in
theorem Repeat_any (t : ByteArray) (n : Nat) (h0 : 0 < n) (hn : n ≤ 8192) (g : Nat) (w : World) (hc : w.cell? ⟨g, 0, none⟩ = some (.string t)) :
    Calls Try.prog 25 #[.slice (some ⟨g, 0, none⟩) 1 1, .int .i64 n] w (GotStrs n (List.replicate n t) w) := by
  have HM : Hid (∀ W, Calls Try.prog 39 #[.int .u64 1, .int .u64 (n : Int)] W fun e w' => e = .returned (.tuple #[.int .u64 0, .int .u64 (n : Int)]) ∧ W = w') := fun W => by
    refine (Try.bits_Mul 1 n (by omega) (by omega) W).mono ?_
    rintro e w' ⟨rfl, rfl⟩
    rw [show (1 * n / 18446744073709551616 : Nat) = 0 by omega, show (1 * n % 18446744073709551616 : Nat) = n by omega]
    exact ⟨rfl, rfl⟩
  have hmk := fun W => make_row (t := 54) (e := 9) (z := .string ⟨#[]⟩) (bytes := 16) Try.underlying54 (by kernel_rfl) rfl n (by omega) (by omega) W
  have lg := row_block hc
  dsimp only at lg
  have hT : TRow w.heap.size n 0 t (w.alloc (.cells (List.replicate n (Value.string ⟨#[]⟩)).toArray 9)) := ⟨_, heap_alloc_new w _, by simp, fun j hj => absurd hj (Nat.not_lt_zero _)⟩
  obtain ⟨C1, hcp, hT1⟩ := run_copy_t (sn := 1) (sc := 1) (dc := n) (c := 1) (a := ⟨g, 0, none⟩) 3 hT (by show 1 = min 1 (n - 0); omega) (by omega) (fun j hj => by
    obtain rfl : j = 0 := by omega
    rw [show (⟨g, 0, none⟩ : Addr).add 0 = ⟨g, 0, none⟩ from rfl, World.cell?_alloc_past _ _ _ lg]
    exact hc)
  rw [Nat.sub_zero] at hcp
  have hneg : ¬ (n : Int) < 0 := by omega
  have hbig : ¬ (9223372036854775807 : Int) < n := by omega
  have HT1 := Lib.hid hT1
  clear hT hT1
  generalize (List.replicate n (Value.string ⟨#[]⟩)).toArray = C at *
  go_enter Try.func25, Try.ntmps25
  go_wp2_with (first | (go_at_call 39; ((with_reducible refine (HM.out _).mono ?_)); rintro e w1 ⟨rfl, rfl⟩))
  go_loopw [8] (fun i wr => ∃ m : Nat, i = .int .i64 m ∧ 1 ≤ m ∧ m ≤ n ∧ TRow w.heap.size n m t wr ∧ Below w.heap.size w wr) (fun i _ => (n - intOf i).toNat)
  case atStart => exact ⟨1, rfl, by omega, by omega, HT1.out, ((Below.refl _ w).alloc (Nat.le_refl _) _).trans ⟨rfl, rfl, rfl, by simp, fun k hk => setRow_other _ _ _ _ (by omega)⟩⟩
  case round =>
    obtain ⟨m, rfl, hm1, hm2, hT, hB⟩ := hrel
    have HT := Lib.hid hT
    have HB := Lib.hid hB
    by_cases hlt : m < n
    · have hltI : (m : Int) < n := by omega
      have hle : (m : Int) ≤ n := by omega
      have hcn : ¬ n = m := by omega
      obtain ⟨c, hcd⟩ : ∃ c, c = Nat.min m (n - m) := ⟨_, rfl⟩
      have hc1 : c = min m (n - m) := hcd
      have hcT := hT
      obtain ⟨C0, hg0, _, hC0⟩ := hcT
      obtain ⟨C2, hcp2, hT2⟩ := run_copy_t (w := wr.drew) (sn := m) (sc := n) (dc := n - m) (c := c) (a := ⟨w.heap.size, 0, none⟩) 3 hT hcd (by omega) (fun j hj => by
        have e : (⟨w.heap.size, 0, none⟩ : Addr).add j = ⟨w.heap.size, j, none⟩ := by unfold Addr.add; split <;> simp_all
        rw [e]
        exact (Lib.cell_of_heap (w := wr.drew) hg0 j).trans (hC0 j (by omega)))
      have HCP := Lib.hid hcp2
      have HT2 := Lib.hid hT2
      have HCD := Lib.hid hcd
      have hwrap : IntKind.i64.wrap ((m : Int) + c) = (m : Int) + c := IntWalk.i64_in _ (by omega)
      have hc5 : 1 ≤ c := by omega
      have hc6 : c ≤ n := by omega
      have hc7 : m + c ≤ n := by omega
      clear hcd hcp2 hT2 hT hB hg0 hC0 hmk hcp hc1
      go_wp2
      go_region_law (refine step_copy_law rfl (.tmp 41) (.tmp 44) 54 rfl (.slice (some ⟨w.heap.size, m, none⟩) (n - m) (n - m)) (.slice (some ⟨w.heap.size, 0, none⟩) m n) (by simp [Act.eval, Act.put]) (by simp [Act.eval, Act.put]) HCP.out ?_)
      simp only [List.getElem_toArray, List.getElem_cons_succ, List.getElem_cons_zero, Act.put, List.setIfInBounds_toArray, List.set_cons_succ, List.set_cons_zero]
      go_wp2
      go_roundw
      case rel =>
        exact ⟨m + c, by go_num, by omega, by omega, HT2.out, HB.out.drew.trans ⟨rfl, rfl, rfl, by simp, fun k hk => setRow_other _ _ _ _ (by omega)⟩⟩
      case measure => simp [intOf]; omega
    · obtain rfl : m = n := by omega
      have hltI : ¬ (m : Int) < m := by omega
      clear hT hB hmk hcp
      go_wp2
      go_ret
      exact ⟨w.heap.size, m, rfl, HT.out.own (Nat.le_refl _) hn, HB.out⟩

theorem repeat_blank (w : World) : Calls Try.prog 24 #[.string ⟨#[0]⟩, .int .i64 64] w fun e w' => e = .returned (.string nought) ∧ Below w.heap.size w w' := by
  refine (Try.strings_Repeat ⟨#[0]⟩ 64 w (by omega) (by decide)).mono ?_
  rintro e w' ⟨rfl, hb⟩
  have e : Lib.repeatL (⟨#[0]⟩ : ByteArray).data.toList 64 = List.replicate 64 0 := by decide +kernel
  rw [e]
  exact ⟨rfl, hb⟩

/-- What New answers: a device of n sectors in new memory. -/
def NewAt (base n : Nat) (w : World) (e : Ending) (w' : World) : Prop := ∃ b, e = .returned (.tuple #[.pointer (some ⟨b, 0, none⟩), .int .i64 0]) ∧ Made 58 66 base b (DS.new n) w w'

set_option maxHeartbeats 4000000 in
theorem New_any (n : Nat) (h0 : 0 < n) (hn : n ≤ 8192) (base : Nat) (w : World) (hbase : base ≤ w.heap.size) :
    Calls Try.prog 10 #[.int .i64 n] w (NewAt base n w) := by
  have HR := Lib.hid (repeat_blank w)
  have HT := Lib.hid (Repeat_any nought n h0 hn)
  have hI1 : ¬ (n : Int) < 1 := by omega
  have hI2 : ¬ (8192 : Int) < n := by omega
  go_enter Try.func10, Try.ntmps10
  go_wp2_with fail
  refine HR.out.mono ?_
  rintro e w1 ⟨rfl, hb1⟩
  have HB1 := Lib.hid hb1
  clear hb1
  go_wp2_with fail
  refine (HT.out w1.heap.size _ ?c1).mono ?_
  case c1 => exact Lib.cell_of_heap (heap_alloc_new _ _) 0
  rintro e w2 ⟨g1, k1, rfl, ho1, hb2⟩
  have c2 : w2.cell? ⟨w1.heap.size, 0, none⟩ = some (.string nought) := (hb2.cell (by simp)).trans (Lib.cell_of_heap (heap_alloc_new _ _) 0)
  have HO1 := Lib.hid ho1
  have HB2 := Lib.hid hb2
  clear ho1 hb2
  go_wp2_with fail
  refine (HT.out w1.heap.size _ c2).mono ?_
  rintro e w3 ⟨g2, k2, rfl, ho2, hb3⟩
  have HO2 := Lib.hid ho2
  have HB3 := Lib.hid hb3
  clear ho2 hb3
  go_wp2
  go_ret2
  have l1 : w.heap.size ≤ w1.heap.size := HB1.out.size
  have l2 : w1.heap.size < w2.heap.size := by have := HB2.out.size; simp at this; omega
  have l3 : w2.heap.size ≤ w3.heap.size := HB3.out.size
  have m1 := HO1.out.lt g1 rfl
  have m2 := HO2.out.lt g2 rfl
  simp at m1
  have B1 : Below w.heap.size w w2 := (HB1.out.alloc l1 _).trans (HB2.out.mono (by simp; omega))
  have B3 : Below w.heap.size w w3 := B1.trans (HB3.out.mono (by omega))
  have o1 := (HO1.out.kept (row := none) ⟨HB3.out.os, HB3.out.tape, HB3.out.output, HB3.out.size, fun k hk _ => HB3.out.block k hk⟩ (.inr (by simp [Value.ownBlock])))
  refine ⟨w3.heap.size, rfl, Own w3.heap.size g1 g2 (.slice none 0 0), ⟨g1, k1, g2, k2, .slice none 0 0, ⟨?_, ?_, ?_, ?_, by omega, by omega, by omega, by omega, by simp [Value.ownBlock], by simp [Value.ownBlock], by simp [Value.ownBlock]⟩, rfl⟩, B3.alloc (by omega) _, ?_⟩
  · rw [heap_alloc_new]
    simp [DS.new]
  · have := own_mono (o1.alloc (.cells #[.slice (some ⟨g1, 0, none⟩) n k1, .slice (some ⟨g2, 0, none⟩) n k2, .slice none 0 0, .int .i64 (-1), .bool false] 58)) (base' := base) (by simp; omega)
    simpa [DS.new] using this
  · have := own_mono (HO2.out.alloc (.cells #[.slice (some ⟨g1, 0, none⟩) n k1, .slice (some ⟨g2, 0, none⟩) n k2, .slice none 0 0, .int .i64 (-1), .bool false] 58)) (base' := base) (by omega)
    simpa [DS.new] using this
  · exact World.ownsRow_nil _ _ _ _
  · intro k hk
    rcases hk with rfl | rfl | rfl | hk
    · omega
    · omega
    · omega
    · simp [Value.ownBlock] at hk

end Go.Proofs.Ytchbmchgdhmmmaa
