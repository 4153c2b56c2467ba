/-
  What a reader takes off a head's text, number by number. Conditions: as each theorem states them.
-/
import Derived.Test.YtnknojkihjpjkaaHdRd
import Derived.Test.YtnknojkihjpjkaaHdPutB
import Derived.Test.YtnknojkihjpjkaaHeLaw
import Derived.Deep.RegionLaw
namespace Go.Proofs.Ytnknojkihjpjkaa
open Go.RowKit Go.Rc5 Go.Rc6

/-- What is left of a text from p on. -/
def rest (t : ByteArray) (p : Nat) : ByteArray := t.extract p t.size

theorem rest_list (t : ByteArray) (p : Nat) : (rest t p).data.toList = t.data.toList.drop p := by
  unfold rest
  rw [ByteArray.data_extract, Array.toList_extract, List.extract_eq_take_drop]
  exact List.take_of_length_le (by simp)

theorem rest_zero (t : ByteArray) : rest t 0 = t := by
  apply ext_list
  rw [rest_list, List.drop_zero]

theorem rest_size (t : ByteArray) (p : Nat) : (rest t p).size = t.size - p := by
  unfold rest
  rw [ByteArray.size_extract]
  omega

theorem no_rest {t : ByteArray} {p n : Nat} (h : p + n ≤ t.size) : no (rest t p) false n = false := by
  unfold no
  rw [rest_size, Bool.false_or, Bool.or_eq_false_iff, decide_eq_false_iff_not, decide_eq_false_iff_not]
  omega

theorem txt_rest {t : ByteArray} {p n : Nat} (h : p + n ≤ t.size) : (txt (rest t p) false n).data.toList = cut t.data.toList p n := by
  unfold txt
  rw [no_rest h]
  simp only [Bool.false_eq_true, if_false, Int.toNat_natCast]
  rw [extract_take, List.toList_toArray, rest_list]
  rfl

theorem lft_rest {t : ByteArray} {p n : Nat} (h : p + n ≤ t.size) : lft (rest t p) false n = rest t (p + n) := by
  unfold lft
  rw [no_rest h]
  simp only [Bool.false_eq_true, if_false, Int.toNat_natCast]
  apply ext_list
  rw [rest_list]
  have := rest_list (rest t p) n
  unfold rest at this ⊢
  rw [this]
  have h2 := rest_list t p
  unfold rest at h2
  rw [h2, List.drop_drop]

theorem num_rest {t : ByteArray} {p n : Nat} (h : p + n ≤ t.size) (hn : n ≤ 8) : num (rest t p) false n = Rc2.say (cut t.data.toList p n) := by
  unfold num
  have e : (false || decide (8 < (n : Int))) = false := by simp; omega
  rw [e, txt_rest h]
  unfold Rc2.get
  rw [List.take_of_length_le]
  unfold cut
  rw [List.length_take]
  omega

theorem num_lt (s : ByteArray) (bad : Bool) (n : Nat) : num s bad n < 256 ^ n := by
  unfold num Rc2.get
  refine Nat.lt_of_lt_of_le (Rc2.say_lt _) (Nat.pow_le_pow_right (by decide) ?_)
  rw [List.length_take]
  unfold txt
  split
  · show min 8 (ByteArray.empty.data.toList.length) ≤ n
    exact Nat.le_trans (Nat.min_le_right _ _) (Nat.zero_le _)
  · have h1 := size_list (s.extract 0 (n : Int).toNat)
    rw [ByteArray.size_extract] at h1
    rw [← h1, Int.toNat_natCast]
    omega

theorem Kept.turns {T b : Nat} {s : ByteArray} {bad : Bool} {w w' : World} (h : Rd T b s bad w') (k : Kept b w w') : Turns (blkT b #[.string s, .bool bad] T) (fun i => i = b) w w' :=
  ⟨_, ⟨h, rfl⟩, ⟨k.os, k.tape, k.output, Nat.le_of_eq k.size.symm, fun i _ hn => k.block i hn⟩, fun _ hi => .inl hi⟩

/-- A number that is taken off a reader that is one of several things. -/
theorem Number_crew {U : Nat → Prop} {w0 w : World} {l : List (Thing 0)} (h : Crew U w0 l w) (i : Nat) {b : Nat} {s : ByteArray} {bad : Bool} (hi : l[i]? = some (blkT b #[.string s, .bool bad] 88)) (hs : s.size ≤ 60) (n : Int) (hn : n ≤ 8) :
    Calls Try.prog 56 #[.pointer (some ⟨b, 0, none⟩), .int .i64 n] w fun e w' => e = .returned (.int .u64 (num s bad n)) ∧ Crew U w0 (l.set i (blkT b #[.string (lft s bad n), .bool (no s bad n)] 88)) w' := by
  refine h.turn i hi ?_
  rintro O ⟨ho, rfl⟩ _
  refine (Number_any b s bad n (by unfold maxLen; omega) w ho).mono ?_
  rintro e w' ⟨he, hr, hk⟩
  have e2 : (bad || decide (8 < n)) = bad := by
    have : ¬ 8 < n := by omega
    simp [this]
  rw [e2] at hr
  exact ⟨he, hk.turns hr⟩

theorem Text_crew {U : Nat → Prop} {w0 w : World} {l : List (Thing 0)} (h : Crew U w0 l w) (i : Nat) {b : Nat} {s : ByteArray} {bad : Bool} (hi : l[i]? = some (blkT b #[.string s, .bool bad] 88)) (n : Int) :
    Calls Try.prog 55 #[.pointer (some ⟨b, 0, none⟩), .int .i64 n] w fun e w' => e = .returned (.string (txt s bad n)) ∧ Crew U w0 (l.set i (blkT b #[.string (lft s bad n), .bool (no s bad n)] 88)) w' := by
  refine h.turn i hi ?_
  rintro O ⟨ho, rfl⟩ _
  refine (Text_any b s bad n w ho).mono ?_
  rintro e w' ⟨he, hr, hk⟩
  exact ⟨he, hk.turns hr⟩

/-- A number where it lies in the text. -/
theorem Number_rest {U : Nat → Prop} {w0 w : World} {l : List (Thing 0)} {t : ByteArray} {p : Nat} (h : Crew U w0 l w) (i : Nat) {b : Nat} (hi : l[i]? = some (blkT b #[.string (rest t p), .bool false] 88)) (ht : t.size = 60) (m : Int) (n : Nat) (hm : m = (n : Int)) (hn : n ≤ 8) (hp : p + n ≤ 60) :
    Calls Try.prog 56 #[.pointer (some ⟨b, 0, none⟩), .int .i64 m] w fun e w' => e = .returned (.int .u64 (Rc2.say (cut t.data.toList p n))) ∧ Crew U w0 (l.set i (blkT b #[.string (rest t (p + n)), .bool false] 88)) w' := by
  subst hm
  have := Number_crew h i hi (by rw [rest_size]; omega) n (by omega)
  rw [num_rest (by omega) hn, lft_rest (by omega), no_rest (by omega)] at this
  exact this

theorem step_append_crew {P : Program} {U : Nat → Prop} {w0 w : World} {l : List (Thing 0)} {e z n : Nat} {xs : List Value} {ops : Array Oper} {o : Oper} {a : Act} {K : Act → World → Prop} {Q : Exit → Act → World → Prop} {E : Prop} (h : Crew U w0 l w) (i : Nat) {v : Value} (hi : l[i]? = some (rowT 0 e z v n xs)) (hgd : o.guard = none) (s x : Operand) (t : TypeId)
    (ho : o.op = .call { callee := .builtin .append, args := #[s, x], argTypes := #[t, t] }) (zv : Value) (bytes : Nat) (ht : P.underlying t = some (.slice e)) (hinfo : (P.info? e).map (fun i => (i.zero, i.size, i.bytes)) = some (some zv, z, bytes)) (hzs : zv.cells.size = z) (hsz : 0 < z)
    (hs : a.eval s = v) (ad : Addr) (m c : Nat) (news : List Value) (hx : a.eval x = .slice (some ad) m c) (hl : news.length = m * z) (hnews : ∀ j u, news[j]? = some u → w.cell? (ad.add j) = some u) (h1 : ∀ u ∈ news, u.oneCell' = true)
    (h63 : n + m ≤ maxLen) (hbytes : (n + m) * bytes ≤ 140737488355328)
    (hK : ∀ v' w', Crew U w0 (l.set i (rowT 0 e z v' (n + m) (xs ++ news))) w' → K (a.put o.dst v') w') : if Region.wanted o (yielded ops a.tmps) = true then Oper.wp P o a w K Q else E := by
  obtain ⟨v', w', hr, h2⟩ := run_append_crew (P := P) h i hi t o.type zv bytes ht hinfo hzs hsz ad m c news hl hnews h1 h63 hbytes
  rw [if_pos (by simp [Region.wanted, hgd])]
  unfold Oper.wp
  simp [execOp, ho, resolve, invoke, builtin, hs, hx, hr, Result.andThen]
  exact hK v' w' h2

theorem news_span (w : World) (v u : Value) (t : Nat) : ∀ j x, [v, u][j]? = some x → (w.alloc (.cells #[v, u] t)).cell? ((⟨w.heap.size, 0, none⟩ : Addr).add j) = some x := by
  intro j x hx
  rw [add_own, World.cell?_alloc_new]
  simpa using hx

theorem wrap_u16 {n : Nat} (h : n < 65536) : IntKind.i64.wrap ((n : Nat) : Int) = (n : Int) := IntWalk.i64_in _ (by omega)
theorem wrap_u32 {n : Nat} (h : n < 4294967296) : IntKind.i64.wrap ((n : Nat) : Int) = (n : Int) := IntWalk.i64_in _ (by omega)

end Go.Proofs.Ytnknojkihjpjkaa
