/-
  The statements' own words for heads: a head as the document has it, and whether two are one. Conditions: as each theorem states them.
-/
import Derived.Test.YtnknojkihjpjkaaHdChoose
namespace Go.Proofs.Ytnknojkihjpjkaa
open Go.RowKit Go.Rc5 Go.Rc6

theorem row31 {W : World} {b : Nat} {cs : Array Value} (hcs : cs.size = 4) (h : W.heap[b]? = some (.cells cs 31 (0, 0))) (fn : Func) (p : Tmp) (hr : fn.results = #[.cell p 31]) (tmps : Array Value)
    (hp : tmps.getD p undef = .pointer (some ⟨b, 0, none⟩)) :
    (results fn tmps).run Try.prog W = .ok (.agg cs) W :=
  results_cell_row hr tmps W b 31 cs (0, 0) _ hp h Try.underlying31 rfl (by rw [hcs]; kernel_rfl)

set_option maxHeartbeats 2000000 in
theorem as_any (g s z : Int) (a : Option Addr) (len c : Nat) (w : World) :
    Calls Try.prog 12 #[.agg #[.int .u64 g, .int .i64 s, .int .i64 z, .slice a len c]] w fun e w' => e = .returned (.agg #[.int .u64 g, .int .i64 s, .int .i64 z, .slice a len c]) ∧ Below w.heap.size w w' := by
  have C := ((Crew.start w).block #[.int .u64 g, .int .i64 s, .int .i64 z, .slice a len c] 25).block #[.int .u64 g, .int .i64 s, .int .i64 z, .slice a len c] 31
  obtain ⟨O, ⟨hblk, _⟩, _⟩ := C.one (i := 1) rfl
  have HBLK := Lib.hid hblk
  have HB := Lib.hid C.bel
  rw [World.size_alloc] at HBLK
  clear C hblk
  go_enter Try.func12, Try.ntmps12
  go_wp2_with fail
  exact bodyPost_ret (row31 rfl HBLK.out _ 2 rfl _ rfl) rfl ⟨rfl, HB.out⟩

set_option maxHeartbeats 8000000 in
theorem sameH_any (g g' s s' z z' : Int) (L L' : List SpI) (a a' : Option Addr) (n n' c c' : Nat) (w : World) (hA : SpansAt w a L) (hB : SpansAt w a' L') (ha : L.length = n) (hb : L'.length = n') (hn : n ≤ 1000000) :
    Calls Try.prog 20 #[.agg #[.int .u64 g, .int .i64 s, .int .i64 z, .slice a n c], .agg #[.int .u64 g', .int .i64 s', .int .i64 z', .slice a' n' c']] w fun e w' => e = .returned (.bool (decide (g = g' ∧ s = s' ∧ z = z' ∧ L = L'))) ∧ Below w.heap.size w w' := by
  have C := ((Crew.start w).block #[.int .u64 g, .int .i64 s, .int .i64 z, .slice a n c] 25).block #[.int .u64 g', .int .i64 s', .int .i64 z', .slice a' n' c'] 31
  have HB := Lib.hid C.bel
  have HS := Lib.hid (fun W (hW : Below w.heap.size w W) => same_any L L' a a' c c' n n' W (SpansAt.below hA hW) (SpansAt.below hB hW) ha hb hn)
  clear C hA hB ha hb
  by_cases h1 : g = g'
  · subst h1
    by_cases h2 : s = s'
    · subst h2
      by_cases h3 : z = z'
      · subst h3
        rw [show decide (g = g ∧ s = s ∧ z = z ∧ L = L') = decide (L = L') by simp]
        go_enter Try.func20, Try.ntmps20
        go_wp2_with fail
        refine (HS.out _ HB.out).mono ?_
        rintro e w1 ⟨rfl, hb1⟩
        go_wp2
        go_ret
        exact ⟨rfl, below_trans HB.out hb1⟩
      · have h4 : (z == z') = false := by simpa using h3
        rw [decide_eq_false (fun h => h3 h.2.2.1)]
        go_enter Try.func20, Try.ntmps20
        go_wp2_with fail
        go_ret
        exact ⟨rfl, HB.out⟩
    · have h4 : (s == s') = false := by simpa using h2
      rw [decide_eq_false (fun h => h2 h.2.1)]
      go_enter Try.func20, Try.ntmps20
      go_wp2_with fail
      go_ret
      exact ⟨rfl, HB.out⟩
  · have h4 : (g == g') = false := by simpa using h1
    rw [decide_eq_false (fun h => h1 h.1)]
    go_enter Try.func20, Try.ntmps20
    go_wp2_with fail
    go_ret
    exact ⟨rfl, HB.out⟩

end Go.Proofs.Ytnknojkihjpjkaa
