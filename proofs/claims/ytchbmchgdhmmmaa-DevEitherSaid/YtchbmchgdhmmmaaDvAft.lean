/-
  A device that is not armed, behind some writes, and behind the power: what its sectors are. Conditions: as each theorem states them.
-/
import Derived.Test.YtchbmchgdhmmmaaDvMath
namespace Go.Rc4

/-- The first k writes, of m sectors. -/
def ws (m : Nat) (F : Nat → AR) : Nat → List (Nat × ByteArray)
  | 0 => []
  | k + 1 => ws m F k ++ [(pk (F k).at_ m, sec (F k).n)]

theorem ws_length (m : Nat) (F : Nat → AR) (k : Nat) : (ws m F k).length = k := by
  induction k with
  | zero => rfl
  | succ k ih => simp [ws, ih]

theorem ws_mem {m : Nat} {F : Nat → AR} {k : Nat} {x : Nat × ByteArray} (h : x ∈ ws m F k) : ∃ i, i < k ∧ x = (pk (F i).at_ m, sec (F i).n) := by
  induction k with
  | zero => cases h
  | succ k ih =>
    rw [ws, List.mem_append, List.mem_singleton] at h
    rcases h with h | h
    · obtain ⟨i, hi, e⟩ := ih h
      exact ⟨i, by omega, e⟩
    · exact ⟨k, by omega, h⟩

/-- A device with the sectors S behind the first k writes. -/
def aft (S : List ByteArray) (m : Nat) (F : Nat → AR) (k : Nat) : DS := ⟨puts S (ws m F k), S, ws m F k, -1, false⟩

theorem aft_free {S : List ByteArray} {m : Nat} (h : S.length = m) (F : Nat → AR) (k : Nat) : Free m (aft S m F k) := ⟨by simp [aft, puts_length, h], rfl, rfl⟩

theorem aft_wr {S : List ByteArray} {m : Nat} (h : S.length = m) (hm : 0 < m) (F : Nat → AR) (k : Nat) : (aft S m F k).wr (pk (F k).at_ m) (sec (F k).n) = (0, aft S m F (k + 1)) := by
  rw [(aft_free h F k).wr (pk_lt _ _ hm) (sec_size _)]
  simp [aft, ws, puts_append, puts]

theorem aft_fl {S : List ByteArray} {m : Nat} (h : S.length = m) (F G : Nat → AR) (k : Nat) : (aft S m F k).fl = (0, aft (puts S (ws m F k)) m G 0) := by
  rw [(aft_free h F k).fl]
  rfl

theorem kept_ones (p : List (Nat × ByteArray)) (n : Nat) : kept p (List.replicate n 1) = p.take n := by
  induction p generalizing n with
  | nil => simp [kept]
  | cons x r ih =>
    cases n with
    | zero => rfl
    | succ n =>
      rw [List.replicate_succ, kept, if_neg (by decide), ih]
      rfl

theorem kept_none (p : List (Nat × ByteArray)) : kept p [] = [] := by cases p <;> rfl

theorem kept_mem {p : List (Nat × ByteArray)} {ks : List Int} {x : Nat × ByteArray} (h : x ∈ kept p ks) : x ∈ p := by
  induction p generalizing ks with
  | nil => cases h
  | cons y r ih =>
    cases ks with
    | nil => cases h
    | cons k ks =>
      rw [kept] at h
      split at h
      · exact List.mem_cons_of_mem _ (ih h)
      · rw [List.mem_cons] at h
        rcases h with rfl | h
        · exact List.mem_cons_self
        · exact List.mem_cons_of_mem _ (ih h)

theorem puts_either (q : List (Nat × ByteArray)) (S : List ByteArray) (j : Nat) (h : j < S.length) : (puts S q).getD j ⟨#[]⟩ = S.getD j ⟨#[]⟩ ∨ ∃ x ∈ q, x.1 = j ∧ (puts S q).getD j ⟨#[]⟩ = x.2 := by
  induction q generalizing S with
  | nil => exact .inl rfl
  | cons y r ih =>
    rw [puts]
    rcases ih (S.set y.1 y.2) (by simpa using h) with e | ⟨x, hx, h1, h2⟩
    · by_cases ey : y.1 = j
      · refine .inr ⟨y, List.mem_cons_self, ey, ?_⟩
        rw [e, List.getD_eq_getElem?_getD, ey, List.getElem?_set_self h]
        rfl
      · refine .inl (e.trans ?_)
        rw [List.getD_eq_getElem?_getD, List.getElem?_set_ne ey, List.getD_eq_getElem?_getD]
    · exact .inr ⟨x, List.mem_cons_of_mem _ hx, h1, h2⟩

/-- All are kept: the sectors are those that were read. -/
theorem aft_all (S : List ByteArray) (m : Nat) (F : Nat → AR) (k : Nat) : ((aft S m F k).pw (List.replicate k 1)).s = (aft S m F k).s := by
  show kput S (ws m F k) (List.replicate k 1) = puts S (ws m F k)
  unfold kput
  rw [kept_ones, List.take_of_length_le (by rw [ws_length]; exact Nat.le_refl _)]

/-- None is kept. -/
theorem aft_none (S : List ByteArray) (m : Nat) (F G : Nat → AR) (k : Nat) : ((aft S m F k).pw []).s = (aft S m G 0).s := by
  show kput S (ws m F k) [] = puts S []
  unfold kput
  rw [kept_none]

theorem aft_either {S : List ByteArray} {m : Nat} (h : S.length = m) (F G : Nat → AR) (k : Nat) (ks : List Int) (j : Nat) (hj : j < m) :
    ((aft S m F k).pw ks).s.getD j ⟨#[]⟩ = (aft S m G 0).s.getD j ⟨#[]⟩ ∨ ∃ i, i < k ∧ pk (F i).at_ m = j ∧ ((aft S m F k).pw ks).s.getD j ⟨#[]⟩ = sec (F i).n := by
  rcases puts_either (kept (ws m F k) ks) S j (by omega) with e | ⟨x, hx, h1, h2⟩
  · exact .inl e
  · obtain ⟨i, hi, rfl⟩ := ws_mem (kept_mem hx)
    exact .inr ⟨i, hi, h1, h2⟩

end Go.Rc4
