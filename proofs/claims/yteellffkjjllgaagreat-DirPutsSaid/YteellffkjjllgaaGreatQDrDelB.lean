/-
  A directory without a name, as the library's DeleteFunc makes it of a row of the call's own; what Without answers. Conditions: as each theorem states them.
-/
import Derived.Test.YteellffkjjllgaaGreatQDrDel
import Derived.Laws.CopyRow
namespace Go.Proofs.YteellffkjjllgaaGreat
open Go.RowKit Go.Rc5 Go.Rc6 Go.Rc7

theorem zeroF_one (m : Nat) : ∀ u ∈ (Builtin.zeroCells #[Value.string ⟨#[]⟩, Value.int .i64 0, Value.slice none 0 0] m).toList, u.oneCell' = true := by
  intro u hu
  simp only [Builtin.zeroCells, Array.toList_map, List.mem_map] at hu
  obtain ⟨j, _, rfl⟩ := hu
  have h3 : j % 3 = 0 ∨ j % 3 = 1 ∨ j % 3 = 2 := by omega
  rcases h3 with e | e | e
  · show (#[Value.string ⟨#[]⟩, Value.int .i64 0, Value.slice none 0 0][j % 3]!).oneCell' = true
    rw [e]; rfl
  · show (#[Value.string ⟨#[]⟩, Value.int .i64 0, Value.slice none 0 0][j % 3]!).oneCell' = true
    rw [e]; rfl
  · show (#[Value.string ⟨#[]⟩, Value.int .i64 0, Value.slice none 0 0][j % 3]!).oneCell' = true
    rw [e]; rfl

/-- 'clear' of what stands behind in a row of files of the call's own. -/
theorem clear_behind {U : Nat → Prop} {w0 w : World} {l : List (Thing 0)} {g n cap i c : Nat} {A B : List Value} (h : Crew U w0 l w) (x : Nat) (hx : l[x]? = some (rowT 0 40 3 (.slice (some ⟨g, 0, none⟩) n cap) n (A ++ B))) (hA : A.length = i * 3) (hi : i ≤ n) (ty : TypeId) :
    ∃ w' B', (Builtin.clear_ #[22] ty #[.slice (some ⟨g, i * 3, none⟩) (n - i) c]).run Tryz.prog w = .ok (.tuple #[]) w' ∧ Crew U w0 (l.set x (rowT 0 40 3 (.slice (some ⟨g, 0, none⟩) n cap) n (A ++ B'))) w' := by
  obtain ⟨i0, hi0, hz0, hz1, hz2⟩ := info_parts infoF
  obtain ⟨O, ⟨ho, rfl⟩, hset, _⟩ := h.one hx
  by_cases hn : n - i = 0
  · refine ⟨w, B, ?_, hset _ _ ⟨_, ⟨ho, rfl⟩, Moved.refl _ _, fun k hk => .inl hk⟩⟩
    rw [hn]
    simp [Builtin.clear_, run_underlying Tryz.underlying22]
  · rcases ho.2 with ⟨e, _⟩ | ⟨g', cap', cur, e, hbg, hg, hnc, hcm, hcs, htake⟩
    · cases e
    · cases e
      obtain ⟨m, hm⟩ : ∃ m, n - i = m + 1 := ⟨n - i - 1, by omega⟩
      rw [hm]
      obtain ⟨Z, hZ⟩ : ∃ Z, (Builtin.zeroCells #[Value.string ⟨#[]⟩, Value.int .i64 0, Value.slice none 0 0] (m + 1)).toList = Z := ⟨_, rfl⟩
      have hlen : Z.length = (m + 1) * 3 := by
        rw [← hZ, Array.length_toList, zero_cells]
        rfl
      have h1 : ∀ u ∈ Z, u.oneCell' = true := by rw [← hZ]; exact zeroF_one _
      have hst := run_storeCells_at Tryz.prog g (i * 3) 40 Z 0 cur w hg (by rw [hlen, hcs]; omega) h1
      have hAB := ho.1
      have hpre : cur.toList.take (i * 3) = A := by
        have h2 := congrArg (List.take (i * 3)) htake
        rw [List.take_take, Nat.min_eq_left (by omega), List.take_left' hA] at h2
        exact h2
      obtain ⟨C, hC0⟩ : ∃ C, (cur.toList.take (i * 3 + 0) ++ Z ++ cur.toList.drop (i * 3 + 0 + Z.length)).toArray = C := ⟨_, rfl⟩
      rw [hC0] at hst
      have hC : C.size = cap * 3 := by
        rw [← hC0, List.size_toArray, List.length_append, List.length_append, List.length_take, List.length_drop, hlen, Array.length_toList, hcs]
        omega
      have hCt : C.toList.take (n * 3) = A ++ Z := by
        rw [← hC0]
        simp only [Nat.add_zero]
        rw [hpre, List.take_left']
        rw [List.length_append, hA, hlen]
        omega
      refine ⟨w.setRow g C, Z, ?_, hset (rowT 0 40 3 (.slice (some ⟨g, 0, none⟩) n cap) n (A ++ Z)) _ ⟨_, ⟨⟨by rw [List.length_append, hA, hlen]; omega, .inr ⟨g, cap, C, rfl, hbg, setRow_heap w g cur _ 40 _ hg, hnc, hcm, hC, hCt⟩⟩, rfl⟩, (Moved.refl (fun k => (Value.slice (some ⟨g, 0, none⟩) n cap).ownBlock = some k) w).setRow (b := g) (.inl rfl) C, fun k hk => .inl hk⟩⟩
      simp [Builtin.clear_, run_underlying Tryz.underlying22, zeroValue, typeInfo, hi0, hz0, Value.cells, hZ, hst]

/-- What is left without a name is the answer. -/
def Deleted (R : List FR) (nm : ByteArray) (w0 : World) (e : Ending) (w' : World) : Prop := (∃ a c, e = .returned (.slice a (R.filter (keep nm)).length c) ∧ FilesAt w' a ((R.filter (keep nm)).map (·.1))) ∧ Below w0.heap.size w0 w'

end Go.Proofs.YteellffkjjllgaaGreat
