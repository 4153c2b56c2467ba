/-
  What strconv.ParseUint answers at base 16: the number and no error, or an error. Conditions: the text has at most 2^40 bytes; the library's two error variables hold values (Errs).
-/
import Derived.Test.YtghnjdbamenkgaaDoorParseB
import Derived.Test.YtghnjdbamenkgaaDoorMathE
namespace Go.Proofs.YtghnjdbamenkgaaDoor
open Go.RowKit

/-- The library's two error variables hold an interface value each. -/
def Errs (w : World) : Prop := (∃ e, w.cell? ⟨1, 0, none⟩ = some e ∧ (e = .nilIface ∨ ∃ te pe, e = .iface te pe)) ∧ (∃ e, w.cell? ⟨2, 0, none⟩ = some e ∧ (e = .nilIface ∨ ∃ te pe, e = .iface te pe))

theorem lt_of_cell {w : World} {g k : Nat} {v : Value} (h : w.cell? ⟨g, k, none⟩ = some v) : g < w.heap.size := by
  rcases Nat.lt_or_ge g w.heap.size with h' | h'
  · exact h'
  · unfold World.cell? at h
    simp [Array.getElem?_eq_none h'] at h

theorem Errs.next {w w' : World} (h : Errs w) (hb : Below w.heap.size w w') : Errs w' := by
  obtain ⟨⟨e1, h1, k1⟩, ⟨e2, h2, k2⟩⟩ := h
  refine ⟨⟨e1, ?_, k1⟩, ⟨e2, ?_, k2⟩⟩
  · rw [hb.cell (p := ⟨1, 0, none⟩) (lt_of_cell h1)]; exact h1
  · rw [hb.cell (p := ⟨2, 0, none⟩) (lt_of_cell h2)]; exact h2

def PostP (max : Nat) (l : List UInt8) (w : World) (e : Ending) (w' : World) : Prop :=
  ∃ x ev, e = .returned (.tuple #[.int .u64 x, ev]) ∧ ((l ≠ [] ∧ ∃ v, Rc1.hx max 0 l = some v ∧ x = (v : Int) ∧ ev = .nilIface) ∨ ((l = [] ∨ Rc1.hx max 0 l = none) ∧ ∃ T p, ev = .iface T p)) ∧ Below w.heap.size w w'

theorem empty_of (t : ByteArray) (h : t.size = 0) : t = ⟨#[]⟩ := of_list (nil_of t h)

set_option maxHeartbeats 1000000 in
theorem ParseUint8 (t : ByteArray) (hmax : t.size ≤ 1099511627776) (w : World) (hE : Errs w) :
    Calls Tryd.prog 44 #[.string t, .int .i64 16, .int .i64 8] w (PostP 255 t.data.toList w) := by
  by_cases h0 : t.size = 0
  · have _HN := nil_of t h0
    obtain ⟨⟨e1, hv1, he1⟩, -⟩ := hE
    have H1 := Lib.hid hv1
    have HE1 := Lib.hid he1
    obtain rfl := empty_of t h0
    clear hv1 h0 he1 _HN
    go_enter Tryd.func44, Tryd.ntmps44
    go_wp2_with (first | (go_at_call 51; ((with_reducible refine (Tryd.internal_strconv_ParseUint_empty 16 8 _).mono ?_)); rintro e w1 ⟨rfl, rfl⟩) | (go_at_call 52; ((with_reducible refine (Tryd.strconv_toError_syntax _ _ _ _ e1 _ (by decide) H1.out HE1.out).mono ?_)); rintro e w2 ⟨N, rfl, -, -, hb⟩))
    go_ret2
    exact ⟨_, _, rfl, .inr ⟨.inl rfl, _, _, rfl⟩, hb⟩
  · have HNE := Lib.hid (show t.data.toList ≠ [] by intro e; have := congrArg List.length e; rw [len_data] at this; exact h0 this)
    have HI := Lib.hid (iParseUint8 t h0 hmax)
    have HE := Lib.hid hE
    clear h0 hE
    go_enter Tryd.func44, Tryd.ntmps44
    go_wp2_with fail
    refine (HI.out _).mono ?_
    rintro e w1 ⟨x, ev, rfl, hPU, hb1⟩
    rcases hPU with ⟨v, hv, rfl, rfl⟩ | ⟨hn, rfl | rfl⟩
    · have HV := Lib.hid hv
      clear hv
      go_wp2
      go_ret2
      exact ⟨_, _, rfl, .inl ⟨HNE.out, v, HV.out, rfl, rfl⟩, hb1⟩
    · have HNN := Lib.hid hn
      obtain ⟨⟨e1, hv1, he1⟩, -⟩ := HE.out.next hb1
      have H1 := Lib.hid hv1
      have HE1 := Lib.hid he1
      clear hn hv1 he1
      go_wp2_with (go_at_call 52; ((with_reducible refine (Tryd.strconv_toError_syntax _ _ _ _ e1 _ (by omega) H1.out HE1.out).mono ?_)); rintro e w2 ⟨N, rfl, -, -, hb⟩)
      go_ret2
      exact ⟨_, _, rfl, .inr ⟨.inr HNN.out, _, _, rfl⟩, below_trans hb1 hb⟩
    · have HNN := Lib.hid hn
      obtain ⟨-, ⟨e2, hv1, he1⟩⟩ := HE.out.next hb1
      have H1 := Lib.hid hv1
      have HE1 := Lib.hid he1
      clear hn hv1 he1
      go_wp2_with (go_at_call 52; ((with_reducible refine (Tryd.strconv_toError_range _ _ _ _ e2 _ (by omega) H1.out HE1.out).mono ?_)); rintro e w2 ⟨N, rfl, -, -, hb⟩)
      go_ret2
      exact ⟨_, _, rfl, .inr ⟨.inr HNN.out, _, _, rfl⟩, below_trans hb1 hb⟩

set_option maxHeartbeats 1000000 in
theorem ParseUint32 (t : ByteArray) (hmax : t.size ≤ 1099511627776) (w : World) (hE : Errs w) :
    Calls Tryd.prog 44 #[.string t, .int .i64 16, .int .i64 32] w (PostP 4294967295 t.data.toList w) := by
  by_cases h0 : t.size = 0
  · have _HN := nil_of t h0
    obtain ⟨⟨e1, hv1, he1⟩, -⟩ := hE
    have H1 := Lib.hid hv1
    have HE1 := Lib.hid he1
    obtain rfl := empty_of t h0
    clear hv1 h0 he1 _HN
    go_enter Tryd.func44, Tryd.ntmps44
    go_wp2_with (first | (go_at_call 51; ((with_reducible refine (Tryd.internal_strconv_ParseUint_empty 16 32 _).mono ?_)); rintro e w1 ⟨rfl, rfl⟩) | (go_at_call 52; ((with_reducible refine (Tryd.strconv_toError_syntax _ _ _ _ e1 _ (by decide) H1.out HE1.out).mono ?_)); rintro e w2 ⟨N, rfl, -, -, hb⟩))
    go_ret2
    exact ⟨_, _, rfl, .inr ⟨.inl rfl, _, _, rfl⟩, hb⟩
  · have HNE := Lib.hid (show t.data.toList ≠ [] by intro e; have := congrArg List.length e; rw [len_data] at this; exact h0 this)
    have HI := Lib.hid (iParseUint32 t h0 hmax)
    have HE := Lib.hid hE
    clear h0 hE
    go_enter Tryd.func44, Tryd.ntmps44
    go_wp2_with fail
    refine (HI.out _).mono ?_
    rintro e w1 ⟨x, ev, rfl, hPU, hb1⟩
    rcases hPU with ⟨v, hv, rfl, rfl⟩ | ⟨hn, rfl | rfl⟩
    · have HV := Lib.hid hv
      clear hv
      go_wp2
      go_ret2
      exact ⟨_, _, rfl, .inl ⟨HNE.out, v, HV.out, rfl, rfl⟩, hb1⟩
    · have HNN := Lib.hid hn
      obtain ⟨⟨e1, hv1, he1⟩, -⟩ := HE.out.next hb1
      have H1 := Lib.hid hv1
      have HE1 := Lib.hid he1
      clear hn hv1 he1
      go_wp2_with (go_at_call 52; ((with_reducible refine (Tryd.strconv_toError_syntax _ _ _ _ e1 _ (by omega) H1.out HE1.out).mono ?_)); rintro e w2 ⟨N, rfl, -, -, hb⟩)
      go_ret2
      exact ⟨_, _, rfl, .inr ⟨.inr HNN.out, _, _, rfl⟩, below_trans hb1 hb⟩
    · have HNN := Lib.hid hn
      obtain ⟨-, ⟨e2, hv1, he1⟩⟩ := HE.out.next hb1
      have H1 := Lib.hid hv1
      have HE1 := Lib.hid he1
      clear hn hv1 he1
      go_wp2_with (go_at_call 52; ((with_reducible refine (Tryd.strconv_toError_range _ _ _ _ e2 _ (by omega) H1.out HE1.out).mono ?_)); rintro e w2 ⟨N, rfl, -, -, hb⟩)
      go_ret2
      exact ⟨_, _, rfl, .inr ⟨.inr HNN.out, _, _, rfl⟩, below_trans hb1 hb⟩

end Go.Proofs.YtghnjdbamenkgaaDoor
