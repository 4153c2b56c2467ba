/-
  What Norm makes of a row of spans that lie inside, in one word; rows turned and cut; a row that came in, with its capacity. Conditions: as each theorem states them.
-/
import Derived.Test.YtcknpmlekpgafaaSpOrd
namespace Go.Rc5

/-- What Norm makes of a row: the right row, or that two have a sector in common. -/
def Out (N : List Sp) (n : Nat) (R : List Sp) (E : Int) : Prop := (N.Pairwise Apart ∧ R = rows (memB N) n ∧ E = 0) ∨ (¬ N.Pairwise Apart ∧ R = [] ∧ E = 5)

theorem out_any (N : List Sp) (n : Nat) : ∃ R E, Out N n R E := by
  by_cases h : N.Pairwise Apart
  · exact ⟨_, _, .inl ⟨h, rfl, rfl⟩⟩
  · exact ⟨_, _, .inr ⟨h, rfl, rfl⟩⟩

theorem Out.same {N N' : List Sp} {n : Nat} {R : List Sp} {E : Int} (h : Out N n R E) (ha : N.Pairwise Apart ↔ N'.Pairwise Apart) (hm : ∀ x, memB N' x = memB N x) : Out N' n R E := by
  rcases h with ⟨h1, rfl, rfl⟩ | ⟨h1, rfl, rfl⟩
  · exact .inl ⟨ha.1 h1, rows_congr fun x _ => (hm x).symm, rfl⟩
  · exact .inr ⟨fun h => h1 (ha.2 h), rfl, rfl⟩

theorem Out.err {N : List Sp} {n : Nat} {R : List Sp} {E : Int} (h : Out N n R E) : ¬ E = 11 := by
  rcases h with ⟨_, _, rfl⟩ | ⟨_, _, rfl⟩ <;> decide

theorem Out.len {N : List Sp} {n : Nat} {R : List Sp} {E : Int} (h : Out N n R E) : R.length ≤ n := by
  rcases h with ⟨_, rfl, _⟩ | ⟨_, rfl, _⟩
  · exact rows_len _ _
  · exact Nat.zero_le _

theorem bad_turned {L : List SpI} {size : Int} (h : Bad L size) (k : Nat) : Bad (L.drop k ++ L.take k) size := by
  rcases h with h | h | ⟨s, hs, e⟩
  · exact .inl h
  · exact .inr (.inl h)
  · refine .inr (.inr ⟨s, ?_, e⟩)
    rw [← List.take_append_drop k L] at hs
    rcases List.mem_append.1 hs with h | h
    · exact List.mem_append_right _ h
    · exact List.mem_append_left _ h

theorem mem_turned {α : Type} {L : List α} {k : Nat} {s : α} (h : s ∈ L.drop k ++ L.take k) : s ∈ L := by
  rcases List.mem_append.1 h with h | h
  · exact List.mem_of_mem_drop h
  · exact List.mem_of_mem_take h

theorem castS_turned (N : List Sp) (k : Nat) : (castS N).drop k ++ (castS N).take k = castS (N.drop k ++ N.take k) := by
  simp [castS, List.map_append, List.map_drop, List.map_take]

theorem fits_turned {N : List Sp} {n : Nat} (h : Fits (castS N) N n) (k : Nat) : Fits (castS (N.drop k ++ N.take k)) (N.drop k ++ N.take k) n :=
  ⟨h.lo, h.hi, rfl, fun s hs => h.some s (mem_turned hs), fun s hs => h.fit s (mem_turned hs)⟩

theorem out_turned {N : List Sp} {n : Nat} {R : List Sp} {E : Int} (hf : Fits (castS N) N n) (h : Out N n R E) (k : Nat) : Out (N.drop k ++ N.take k) n R E :=
  h.same (apart_same hf.fit (fun s hs => hf.fit s (mem_turned hs)) (turned_same N k).1.symm (fun x => ((turned_same N k).2 x).symm)) (turned_same N k).2

theorem fits_cut {N : List Sp} {n k : Nat} (h : Fits (castS N) N n) (hk : k < N.length) (h2 : 2 ≤ (N.getD k (0, 0)).2) : Fits (castS (cutAt N k)) (cutAt N k) n :=
  ⟨h.lo, h.hi, rfl, (cut_fit hk h2 h.some h.fit).1, (cut_fit hk h2 h.some h.fit).2⟩

theorem out_cut {N : List Sp} {n k : Nat} {R : List Sp} {E : Int} (hf : Fits (castS N) N n) (h : Out N n R E) (hk : k < N.length) (h2 : 2 ≤ (N.getD k (0, 0)).2) : Out (cutAt N k) n R E :=
  h.same (apart_same hf.fit (cut_fit hk h2 hf.some hf.fit).2 (cut_same N k hk h2).1.symm (fun x => ((cut_same N k hk h2).2 x).symm)) (cut_same N k hk h2).2

theorem castS_cut (N : List Sp) (k : Nat) (h2 : 2 ≤ (N.getD k (0, 0)).2) :
    (castS N).set k (((N.getD k (0, 0)).1 : Int), ((N.getD k (0, 0)).2 : Int) - 1) ++ [(((N.getD k (0, 0)).1 : Int) + (N.getD k (0, 0)).2 - 1, 1)] = castS (cutAt N k) := by
  unfold cutAt
  rw [castS_append]
  congr 1
  · unfold castS
    rw [List.map_set]
    congr 1
    exact Prod.ext rfl (by show ((N.getD k (0, 0)).2 : Int) - 1 = (((N.getD k (0, 0)).2 - 1 : Nat) : Int); omega)
  · unfold castS
    simp only [List.map_cons, List.map_nil]
    congr 1
    exact Prod.ext (by show ((N.getD k (0, 0)).1 : Int) + (N.getD k (0, 0)).2 - 1 = (((N.getD k (0, 0)).1 + (N.getD k (0, 0)).2 - 1 : Nat) : Int); omega) rfl

end Go.Rc5
namespace Go.Proofs.Ytcknpmlekpgafaa
open Go.ChangeShapes Go.WideShapes Go.ChangeAt Go.RowKit Go.Rc5 Go.Deep

/-- What is known of a row of spans that came in, with its capacity. -/
def IsSpansC (w : World) (a : Option Addr) (len cap : Nat) (L : List SpI) : Prop := IsSpans w a len L ∧ len ≤ cap ∧ cap ≤ maxLen

theorem open_spansC {H : Type} {enc : TypeId × Value → H} {w : World} {base : Nat} {spare : Nat → Bool} {held : Bool} {fuel : Nat} {a : Option Addr} {len cap : Nat} {x : DataW H × List MemPlace}
    (h : DataW.trod enc Try.prog w base spare held fuel 22 [.slice a len cap] = some x) : ∃ L, IsSpansC w a len cap L := by
  obtain ⟨h1, h2, _⟩ := field_cells (P := Try.prog) (fs := #[_, _]) Try.underlying22 Try.underlying34 (by kernel_rfl) (by kernel_rfl) h
  obtain ⟨L, hL⟩ := open_spans h
  exact ⟨L, hL, h1, h2⟩

theorem norm_out (N : List Sp) (n : Nat) (R : List Sp) (E : Int) (a : Option Addr) (c len : Nat) (w : World) (h : SpansAt w a (castS N)) (hl : N.length = len) (hlen : len ≤ 100000) (hg : Fits (castS N) N n) (ho : Out N n R E) :
    Calls Try.prog 10 #[.slice a len c, .int .i64 n] w fun e w' => ∃ b k, e = .returned (.tuple #[.slice b R.length k, .int .i64 E]) ∧ SpansAt w' b (castS R) ∧ Below w.heap.size w w' := by
  refine (pnorm_good (castS N) N n a c len w h (by rw [castS_length, hl]) hlen hg).mono ?_
  rintro e w' hr
  rcases ho with ⟨hp, rfl, rfl⟩ | ⟨hp, rfl, rfl⟩
  · obtain ⟨v, rfl, hfr⟩ := hr.ok hp
    obtain ⟨b, k, rfl, hs, hb⟩ := row_of hfr
    exact ⟨b, k, by rw [castS_length], hs, hb⟩
  · obtain ⟨rfl, hb⟩ := hr.no hp
    exact ⟨none, 0, rfl, spans_none _, hb⟩

end Go.Proofs.Ytcknpmlekpgafaa
