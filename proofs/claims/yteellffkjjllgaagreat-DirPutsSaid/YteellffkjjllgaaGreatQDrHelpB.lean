/-
  Whether files are the same, how many sectors spans have, and the chapter's example. Conditions: as each theorem states them.
-/
import Derived.Test.YteellffkjjllgaaGreatQDrHelp
namespace Go.Proofs.YteellffkjjllgaaGreat
open Go.RowKit Go.Rc5 Go.Rc6 Go.Rc7

theorem sum_bound {S : List SpI} (h : ∀ s ∈ S, 0 ≤ s.2 ∧ s.2 < 65536) : 0 ≤ sumI S ∧ sumI S ≤ 65536 * (S.length : Int) := by
  induction S with
  | nil => exact ⟨by decide, by decide⟩
  | cons s r ih =>
    have h1 := h s List.mem_cons_self
    have h2 := ih (fun t ht => h t (List.mem_cons_of_mem _ ht))
    have e : sumI (s :: r) = s.2 + sumI r := by simp [sumI]
    rw [e, List.length_cons]
    omega

end Go.Proofs.YteellffkjjllgaaGreat
