/-
  The reference of layer 5: what inside and marks answer. Conditions: as each theorem states them.
-/
import Derived.Test.YtnknojkihjpjkaaSpRef
import Derived.Laws.MakeOwn
import Derived.WalkSmall
namespace Go.Rc5

/-- Has a span sectors, all below size? -/
def insB (s : SpI) (size : Int) : Bool := decide (1 ≤ s.2) && (decide (0 ≤ s.1) && (decide (s.1 < size) && decide (s.2 ≤ size - s.1)))

theorem insB_iff (s : SpI) (size : Int) : insB s size = true ↔ 1 ≤ s.2 ∧ 0 ≤ s.1 ∧ s.1 < size ∧ s.2 ≤ size - s.1 := by simp [insB]

/-- What is wrong with a row, whatever its sectors: the size, or a span. -/
def Bad (L : List SpI) (size : Int) : Prop := size < 1 ∨ 8192 < size ∨ ∃ s ∈ L, insB s size = false

structure Fits (L : List SpI) (N : List Sp) (n : Nat) : Prop where
  lo : 1 ≤ n
  hi : n ≤ 8192
  eq : L = castS N
  some : ∀ s ∈ N, 1 ≤ s.2
  fit : ∀ s ∈ N, s.1 + s.2 ≤ n

theorem bad_or_fits (L : List SpI) (size : Int) : Bad L size ∨ ∃ N n, size = ((n : Nat) : Int) ∧ Fits L N n := by
  by_cases h1 : size < 1
  · exact .inl (.inl h1)
  by_cases h2 : 8192 < size
  · exact .inl (.inr (.inl h2))
  by_cases h3 : ∃ s ∈ L, insB s size = false
  · exact .inl (.inr (.inr h3))
  have h3' : ∀ s ∈ L, insB s size = true := fun s hs => by
    cases e : insB s size with
    | true => rfl
    | false => exact absurd ⟨s, hs, e⟩ h3
  refine .inr ⟨L.map fun s => (s.1.toNat, s.2.toNat), size.toNat, by omega, by omega, by omega, ?_, ?_, ?_⟩
  · simp only [castS, List.map_map]
    symm
    have e : ∀ s ∈ L, ((fun s : Sp => ((s.1 : Int), (s.2 : Int))) ∘ fun s : SpI => (s.1.toNat, s.2.toNat)) s = id s := by
      intro s hs
      have := (insB_iff s size).1 (h3' s hs)
      exact Prod.ext (by show ((s.1.toNat : Nat) : Int) = s.1; omega) (by show ((s.2.toNat : Nat) : Int) = s.2; omega)
    exact (List.map_congr_left e).trans (List.map_id L)
  · intro s hs
    simp only [List.mem_map] at hs
    obtain ⟨t, ht, rfl⟩ := hs
    have := (insB_iff t size).1 (h3' t ht)
    show 1 ≤ t.2.toNat
    omega
  · intro s hs
    simp only [List.mem_map] at hs
    obtain ⟨t, ht, rfl⟩ := hs
    have := (insB_iff t size).1 (h3' t ht)
    show t.1.toNat + t.2.toNat ≤ size.toNat
    omega

/-- The marks of f below n. -/
def bl (f : Nat → Bool) (n : Nat) : List Bool := (List.range n).map f

theorem bl_length (f : Nat → Bool) (n : Nat) : (bl f n).length = n := by simp [bl]
theorem bl_get (f : Nat → Bool) (n x : Nat) (h : x < n) : (bl f n).getD x false = f x := by simp [bl, List.getD_eq_getElem?_getD, h]
theorem bl_set (f : Nat → Bool) (n x : Nat) (b : Bool) : (bl f n).set x b = bl (fun y => if y = x then b else f y) n := by
  apply List.ext_getElem?
  intro j
  simp only [bl, List.getElem?_set, List.length_map, List.length_range, List.getElem?_map]
  by_cases hj : j < n
  · by_cases e : x = j
    · subst e; simp [hj]
    · have e' : ¬ j = x := fun h => e h.symm
      simp [hj, e, e']
  · by_cases e : x = j
    · subst e; simp [hj]
    · simp [hj, e]
theorem bl_congr {f g : Nat → Bool} {n : Nat} (h : ∀ x, x < n → f x = g x) : bl f n = bl g n := by
  unfold bl
  exact List.map_congr_left (fun x hx => h x (by simpa using hx))

theorem castS_getD (N : List Sp) (i : Nat) : (castS N).getD i (0, 0) = (((N.getD i (0, 0)).1 : Int), ((N.getD i (0, 0)).2 : Int)) := by
  simp only [castS, List.getD_eq_getElem?_getD, List.getElem?_map]
  cases N[i]? <;> rfl

theorem take_snoc {α : Type} (l : List α) (k : Nat) (z : α) (h : k < l.length) : l.take (k + 1) = l.take k ++ [l.getD k z] := by
  rw [List.take_add_one, List.getElem?_eq_getElem h]
  simp [List.getD_eq_getElem?_getD, h]

theorem apart_symm {s t : Sp} (h : Apart s t) : Apart t s := by
  intro x hx
  rw [Bool.eq_false_iff]
  intro e
  rw [h x e] at hx
  cases hx

end Go.Rc5
namespace Go.Proofs.Ytnknojkihjpjkaa
open Go.RowKit Go.Rc5

set_option maxHeartbeats 2000000 in
theorem rinside_any (s : SpI) (size : Int) (h0 : 1 ≤ size) (h1 : size ≤ 8192) (w : World) :
    Calls Try.prog 69 #[.agg #[.int .i64 s.1, .int .i64 s.2], .int .i64 size] w fun e w' => e = .returned (.bool (insB s size)) ∧ Below w.heap.size w w' := by
  obtain ⟨a, m⟩ := s
  dsimp only
  have HE : Hid (insB (a, m) size = (decide (1 ≤ m) && (decide (0 ≤ a) && (decide (a < size) && decide (m ≤ size - a))))) := rfl
  by_cases b1 : 1 ≤ m
  · by_cases b2 : 0 ≤ a
    · by_cases b3 : a < size
      · by_cases b4 : m ≤ size - a
        · go_enter Try.func69, Try.ntmps69
          go_wp2
          go_ret
          exact ⟨by rw [HE.out]; simp [b1, b2, b3, b4], (Below.refl _ _).alloc (Nat.le_refl _) _⟩
        · go_enter Try.func69, Try.ntmps69
          go_wp2
          go_ret
          exact ⟨by rw [HE.out]; simp; omega, (Below.refl _ _).alloc (Nat.le_refl _) _⟩
      · go_enter Try.func69, Try.ntmps69
        go_wp2
        go_ret
        exact ⟨by rw [HE.out]; simp; omega, (Below.refl _ _).alloc (Nat.le_refl _) _⟩
    · go_enter Try.func69, Try.ntmps69
      go_wp2
      go_ret
      exact ⟨by rw [HE.out]; simp; omega, (Below.refl _ _).alloc (Nat.le_refl _) _⟩
  · go_enter Try.func69, Try.ntmps69
    go_wp2
    go_ret
    exact ⟨by rw [HE.out]; simp; omega, (Below.refl _ _).alloc (Nat.le_refl _) _⟩

end Go.Proofs.Ytnknojkihjpjkaa
