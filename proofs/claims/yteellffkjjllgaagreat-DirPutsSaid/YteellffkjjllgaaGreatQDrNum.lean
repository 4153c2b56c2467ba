/-
  What a reader takes off a text, one of several things. Conditions: as each theorem states them.
-/
import Derived.Test.YteellffkjjllgaaGreatG1
import Derived.Test.YteellffkjjllgaaGreatQDrPut
import Derived.Test.YteellffkjjllgaaGreatQHeLaw
import Derived.Deep.RegionLaw
namespace Go.Proofs.YteellffkjjllgaaGreat
open Go.RowKit Go.Rc5 Go.Rc6

theorem num_lt (s : ByteArray) (bad : Bool) (n : Nat) : num s bad n < 256 ^ n := by
  unfold num Rc2.get
  refine Nat.lt_of_lt_of_le (Rc2.say_lt _) (Nat.pow_le_pow_right (by decide) ?_)
  rw [List.length_take]
  unfold txt
  split
  · show min 8 (ByteArray.empty.data.toList.length) ≤ n
    exact Nat.le_trans (Nat.min_le_right _ _) (Nat.zero_le _)
  · have h1 := size_list (s.extract 0 (n : Int).toNat)
    rw [ByteArray.size_extract] at h1
    rw [← h1, Int.toNat_natCast]
    omega

theorem Kept.turns {T b : Nat} {s : ByteArray} {bad : Bool} {w w' : World} (h : Rd T b s bad w') (k : Kept b w w') : Turns (blkT b #[.string s, .bool bad] T) (fun i => i = b) w w' :=
  ⟨_, ⟨h, rfl⟩, ⟨k.os, k.tape, k.output, Nat.le_of_eq k.size.symm, fun i _ hn => k.block i hn⟩, fun _ hi => .inl hi⟩

/-- A number that is taken off a reader that is one of several things. -/
theorem Number_crew {U : Nat → Prop} {w0 w : World} {l : List (Thing 0)} (h : Crew U w0 l w) (i : Nat) {b : Nat} {s : ByteArray} {bad : Bool} (hi : l[i]? = some (blkT b #[.string s, .bool bad] 94)) (hs : s.size ≤ 1000000) (n : Int) (hn : n ≤ 8) :
    Calls Tryz.prog 51 #[.pointer (some ⟨b, 0, none⟩), .int .i64 n] w fun e w' => e = .returned (.int .u64 (num s bad n)) ∧ Crew U w0 (l.set i (blkT b #[.string (lft s bad n), .bool (no s bad n)] 94)) w' := by
  refine h.turn i hi ?_
  rintro O ⟨ho, rfl⟩ _
  refine (Number_any b s bad n (by unfold maxLen; omega) w ho).mono ?_
  rintro e w' ⟨he, hr, hk⟩
  have e2 : (bad || decide (8 < n)) = bad := by
    have : ¬ 8 < n := by omega
    simp [this]
  rw [e2] at hr
  exact ⟨he, hk.turns hr⟩

theorem Text_crew {U : Nat → Prop} {w0 w : World} {l : List (Thing 0)} (h : Crew U w0 l w) (i : Nat) {b : Nat} {s : ByteArray} {bad : Bool} (hi : l[i]? = some (blkT b #[.string s, .bool bad] 94)) (n : Int) :
    Calls Tryz.prog 75 #[.pointer (some ⟨b, 0, none⟩), .int .i64 n] w fun e w' => e = .returned (.string (txt s bad n)) ∧ Crew U w0 (l.set i (blkT b #[.string (lft s bad n), .bool (no s bad n)] 94)) w' := by
  refine h.turn i hi ?_
  rintro O ⟨ho, rfl⟩ _
  refine (Text_any b s bad n w ho).mono ?_
  rintro e w' ⟨he, hr, hk⟩
  exact ⟨he, hk.turns hr⟩

theorem step_append_crew {P : Program} {U : Nat → Prop} {w0 w : World} {l : List (Thing 0)} {e z n : Nat} {xs : List Value} {ops : Array Oper} {o : Oper} {a : Act} {K : Act → World → Prop} {Q : Exit → Act → World → Prop} {E : Prop} (h : Crew U w0 l w) (i : Nat) {v : Value} (hi : l[i]? = some (rowT 0 e z v n xs)) (hgd : o.guard = none) (s x : Operand) (t : TypeId)
    (ho : o.op = .call { callee := .builtin .append, args := #[s, x], argTypes := #[t, t] }) (zv : Value) (bytes : Nat) (ht : P.underlying t = some (.slice e)) (hinfo : (P.info? e).map (fun i => (i.zero, i.size, i.bytes)) = some (some zv, z, bytes)) (hzs : zv.cells.size = z) (hsz : 0 < z)
    (hs : a.eval s = v) (ad : Addr) (m c : Nat) (news : List Value) (hx : a.eval x = .slice (some ad) m c) (hl : news.length = m * z) (hnews : ∀ j u, news[j]? = some u → w.cell? (ad.add j) = some u) (h1 : ∀ u ∈ news, u.oneCell' = true)
    (h63 : n + m ≤ maxLen) (hbytes : (n + m) * bytes ≤ 140737488355328)
    (hK : ∀ v' w', Crew U w0 (l.set i (rowT 0 e z v' (n + m) (xs ++ news))) w' → K (a.put o.dst v') w') : if Region.wanted o (yielded ops a.tmps) = true then Oper.wp P o a w K Q else E := by
  obtain ⟨v', w', hr, h2⟩ := run_append_crew (P := P) h i hi t o.type zv bytes ht hinfo hzs hsz ad m c news hl hnews h1 h63 hbytes
  rw [if_pos (by simp [Region.wanted, hgd])]
  unfold Oper.wp
  simp [execOp, ho, resolve, invoke, builtin, hs, hx, hr, Result.andThen]
  exact hK v' w' h2

theorem news_span (w : World) (v u : Value) (t : Nat) : ∀ j x, [v, u][j]? = some x → (w.alloc (.cells #[v, u] t)).cell? ((⟨w.heap.size, 0, none⟩ : Addr).add j) = some x := by
  intro j x hx
  rw [add_own, World.cell?_alloc_new]
  simpa using hx

theorem wrap_u16 {n : Nat} (h : n < 65536) : IntKind.i64.wrap ((n : Nat) : Int) = (n : Int) := IntWalk.i64_in _ (by omega)
theorem wrap_u32 {n : Nat} (h : n < 4294967296) : IntKind.i64.wrap ((n : Nat) : Int) = (n : Int) := IntWalk.i64_in _ (by omega)

end Go.Proofs.YteellffkjjllgaaGreat
