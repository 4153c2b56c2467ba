/-
  A directory without a name, as the library's DeleteFunc makes it of a row of the call's own. Conditions: as each theorem states them.
-/
import Derived.Test.YteellffkjjllgaaQDrConcat
namespace Go.Rc7
open Go.Rc5

def keep (nm : ByteArray) (r : FR) : Bool := !decide (r.1.name = nm)

theorem filter_take {α : Type} (p : α → Bool) (R : List α) (j : Nat) (d : α) (h : j < R.length) : (R.take (j + 1)).filter p = (R.take j).filter p ++ if p (R.getD j d) then [R.getD j d] else [] := by
  rw [take_snoc R j d h, List.filter_append]
  congr 1
  by_cases e : p (R.getD j d) = true
  · rw [if_pos e, List.filter_cons_of_pos e]
    rfl
  · rw [if_neg e, List.filter_cons_of_neg e]
    rfl

theorem drop_at {α : Type} (R : List α) (j : Nat) (d : α) (h : j < R.length) : R.drop j = R.getD j d :: R.drop (j + 1) := by
  rw [List.drop_eq_getElem_cons h, List.getD_eq_getElem?_getD, List.getElem?_eq_getElem h]
  rfl

theorem app_at {A B : List Value} {i t : Nat} {u : Value} (hA : A.length = i) (hB : B[t]? = some u) : (A ++ B)[i + t]? = some u := by
  rw [List.getElem?_append_right (by omega), show i + t - A.length = t by omega]
  exact hB

theorem set_three {A B : List Value} {i : Nat} (hA : A.length = i) (m0 m1 m2 x0 x1 x2 : Value) : (((A ++ (m0 :: m1 :: m2 :: B)).set i x0).set (i + 1) x1).set (i + 2) x2 = A ++ (x0 :: x1 :: x2 :: B) := by
  subst hA
  simp [List.set_append_right]

end Go.Rc7
namespace Go.Proofs.Yteellffkjjllgaa
open Go.RowKit Go.Rc5 Go.Rc6 Go.Rc7

set_option maxHeartbeats 1000000 in
theorem del_any (f : Fl) (p : Option Addr) (c : Nat) (nb : Nat) (nm : ByteArray) (w : World) (hn : w.cell? ⟨nb, 0, none⟩ = some (.string nm)) :
    Calls Try.prog 44 #[.agg #[.string f.name, .int .i64 f.size, .slice p f.spans.length c], .pointer (some ⟨nb, 0, none⟩)] w fun e w' => e = .returned (.bool (decide (f.name = nm))) ∧ Below w.heap.size w w' := by
  have hb := (Below.refl w.heap.size w).alloc (Nat.le_refl _) (.cells #[.string f.name, .int .i64 f.size, .slice p f.spans.length c] 35)
  have hn2 := (hb.cell (row_block hn)).trans hn
  have HB := Lib.hid hb
  have HQ := Lib.hid (eq_beq f.name nm)
  clear hb hn
  go_enter Try.func44, Try.ntmps44
  go_wp2
  go_ret
  rw [← HQ.out]
  exact ⟨rfl, HB.out⟩

/-- The first of a name, or that there is none. -/
def First (R : List FR) (nm : ByteArray) (r : Int) : Prop := (∃ k : Nat, r = k ∧ k < R.length ∧ keep nm (R.getD k default) = false ∧ ∀ j, j < k → keep nm (R.getD j default) = true) ∨ (r = -1 ∧ ∀ q ∈ R, keep nm q = true)

theorem files_cells {U : Nat → Prop} {w0 w : World} {l : List (Thing 0)} {g n cap : Nat} {A : List Value} {B : List FR} {r : FR} {j : Nat} (h : Crew U w0 l w) (i : Nat) (hi : l[i]? = some (rowT 0 35 3 (.slice (some ⟨g, 0, none⟩) n cap) n (A ++ filesC (r :: B)))) (hA : A.length = j * 3) :
    w.cell? ⟨g, j * 3, none⟩ = some (.string r.1.name) ∧ w.cell? ⟨g, j * 3 + 1, none⟩ = some (.int .i64 r.1.size) ∧ w.cell? ⟨g, j * 3 + 2, none⟩ = some (rowC r) :=
  ⟨(h.cell i hi (app_at (t := 0) hA rfl)).1, (h.cell i hi (app_at (t := 1) hA rfl)).1, (h.cell i hi (app_at (t := 2) hA rfl)).1⟩

set_option maxRecDepth 100000 in
set_option maxHeartbeats 4000000 in
theorem IndexFunc_any (R : List FR) (nb : Nat) (nm : ByteArray) (a : Option Addr) (n c : Nat) (w : World) (h : FilesAt w a (R.map (·.1))) (hl : R.length = n) (hn : n ≤ 1000) (hnm : w.cell? ⟨nb, 0, none⟩ = some (.string nm)) :
    Calls Try.prog 66 #[.slice a n c, .func (.func 44) #[] #[.pointer (some ⟨nb, 0, none⟩)]] w fun e w' => (∃ r : Int, e = .returned (.int .i64 r) ∧ First R nm r) ∧ Below w.heap.size w w' := by
  have HF := Lib.hid (fun W (hW : Below w.heap.size w W) => FilesAt.below h hW)
  have HN := Lib.hid (fun W (hW : Below w.heap.size w W) => keeps hW _ _ hnm)
  have HL := Lib.hid hl
  clear h hl hnm
  go_enter Try.func66, Try.ntmps66
  go_wp2
  go_loopw [5, 8] (fun _ i wr => ∃ k : Nat, k ≤ n ∧ i = .int .i64 k ∧ Hid (∀ j, j < k → keep nm (R.getD j default) = true) ∧ Below w.heap.size w wr) (fun _ i _ => (n - intOf i).toNat)
  case atStart => exact ⟨0, Nat.zero_le _, rfl, fun j hj => absurd hj (Nat.not_lt_zero _), Below.refl _ _⟩
  case round =>
    obtain ⟨k, hk, rfl, hne, hB⟩ := hrel
    have HB := Lib.hid hB
    clear hB
    by_cases hlt : k < n
    · have hltI : (k : Int) < n := by omega
      have hkl : k < R.length := by rw [HL.out]; exact hlt
      obtain ⟨x, rfl, c0, c1, p, cp, c2, _⟩ := HF.out wr HB.out k (by rw [List.length_map]; exact hkl)
      rw [getD_map (fun r : FR => r.1) R k default default hkl] at c0 c1 c2
      have HD := Lib.hid (del_any (R.getD k default).1 p cp nb nm wr (HN.out _ HB.out))
      have HK := Lib.hid (show keep nm (R.getD k default) = !decide ((R.getD k default).1.name = nm) from rfl)
      cases hd : decide ((R.getD k default).1.name = nm) with
      | true =>
        have HFirst : Hid (First R nm (k : Int)) := .inl ⟨k, rfl, hkl, by rw [HK.out, hd]; rfl, hne.out⟩
        rw [hd] at HD
        clear hd HK hkl hne
        generalize (R.getD k default).1 = f at *
        go_wp2_with fail
        refine HD.out.mono ?_
        rintro e w1 ⟨rfl, hb1⟩
        go_wp2
        go_ret
        exact ⟨⟨_, rfl, HFirst.out⟩, below_trans HB.out hb1⟩
      | false =>
        have hne2 : Hid (∀ j, j < k + 1 → keep nm (R.getD j default) = true) := fun j hj => by
          by_cases e : j = k
          · subst e
            rw [HK.out, hd]
            rfl
          · exact hne.out j (by omega)
        rw [hd] at HD
        clear hd HK hkl hne
        generalize (R.getD k default).1 = f at HD c0 c1 c2
        go_wp2_with fail
        refine HD.out.mono ?_
        rintro e w1 ⟨rfl, hb1⟩
        replace HB := Lib.hid (below_trans HB.out hb1)
        clear hb1 HD c0 c1 c2
        go_wp2
        exact ⟨⟨k + 1, by omega, by go_num, hne2, HB.out⟩, by simp [intOf]; omega⟩
    · obtain rfl : k = n := by omega
      have hltI : ¬ (k : Int) < k := by omega
      have HFirst : Hid (First R nm (-1)) := .inr ⟨rfl, fun q hq => by
        obtain ⟨j, hj, rfl⟩ := mem_getD default hq
        exact hne.out j (by rw [← HL.out]; exact hj)⟩
      clear hne
      go_wp2
      go_ret
      exact ⟨⟨_, rfl, HFirst.out⟩, HB.out⟩

end Go.Proofs.Yteellffkjjllgaa
