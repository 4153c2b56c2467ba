/-
  What label.readRune and label.readMark answer: of what a quoted rune looks like its bytes and how long it is; of other words some bytes or nothing. Conditions: the word has at most 2^40 bytes; the library's two error variables hold values (Errs).
-/
import Derived.Test.YtghnjdbamenkgaaDoorRead
import Derived.Test.YtghnjdbamenkgaaDoorMathI
import Derived.Laws.Cover4
namespace Go.Proofs.YtghnjdbamenkgaaDoor
open Go.RowKit

def PostM (l : List UInt8) (w : World) (e : Ending) (w' : World) : Prop :=
  ∃ (p : ByteArray) (k : Nat), e = .returned (.tuple #[.string p, .int .i64 k]) ∧ k ≤ l.length ∧ p.size ≤ 4 ∧ Rc1.Mk l p.data.toList k ∧ Below w.heap.size w w'

theorem extract_mid (s : ByteArray) (a b : Nat) : (s.extract a b).data.toList = (s.data.toList.drop a).take (b - a) := by
  rw [ByteArray.data_extract, Array.toList_extract, List.extract_eq_take_drop]

theorem wrap_small (v : Nat) (h : Rc1.scalar v) : wrap32 (v : Int) = (v : Int) := by
  unfold Rc1.scalar at h
  unfold wrap32; omega

theorem valid_scalar (v : Nat) (h : Rc1.scalar v) : Lib.validRune (v : Int) = true := by
  unfold Rc1.scalar at h
  unfold Lib.validRune; exact decide_eq_true (by omega)

set_option maxHeartbeats 1000000 in
theorem readRune_any (s : ByteArray) (hs : s.size ≤ 1099511627776) (h2 : 2 ≤ s.size) (hb0 : s.data.toList[0]? = some 92) (hb1 : s.data.toList[1]? = some 123) (w : World) (hE : Errs w) :
    Calls Tryd.prog 45 #[.string s] w (PostM s.data.toList w) := by
  have HI := Lib.hid (fun w => Tryd.strings_IndexByte s 125 w)
  have HE := Lib.hid hE
  have n1 : ¬ ∃ rest, s.data.toList = 92 :: 92 :: rest := by rintro ⟨rest, h⟩; rw [h] at hb1; simp at hb1
  have n2 : ¬ ∃ n rest, 128 ≤ n ∧ n < 256 ∧ s.data.toList = [92, 33] ++ Rc1.hexL n ++ rest := by rintro ⟨n, rest, -, -, h⟩; rw [h] at hb1; simp at hb1
  have HN1 := Lib.hid n1; have HN2 := Lib.hid n2
  have hB := Below.refl w.heap.size w
  by_cases hix : Lib.indexByte s.data.toList 125 = -1
  · have HNO := Lib.hid (Rc1.index_none _ _ hix)
    have hI := HI.out
    rw [show ((125 : Int).toNat.toUInt8) = (125 : UInt8) from rfl, hix] at hI
    have HI2 := Lib.hid hI
    clear hI hix hb0 hb1 n1 n2 hE
    go_enter Tryd.func45, Tryd.ntmps45
    go_wp2_with (go_at_call 53; ((with_reducible refine (HI2.out _).mono ?_)); rintro e w1 ⟨rfl, rfl⟩)
    go_ret2
    refine ⟨⟨#[]⟩, 0, rfl, Nat.zero_le _, by decide, Rc1.mk_no _ HN1.out HN2.out ?_ _ _, hB⟩
    rintro ⟨r, rest, -, h⟩
    exact HNO.out (by rw [h]; simp)
  · obtain ⟨i, hi, e1, e2, e3⟩ := Rc1.index_some _ _ hix
    rw [len_data] at hi
    have hi2 : 2 ≤ i := by
      match i, e2 with
      | 0, e2 => rw [hb0] at e2; simp at e2
      | 1, e2 => rw [hb1] at e2; simp at e2
      | i + 2, _ => omega
    have hI := HI.out
    rw [show ((125 : Int).toNat.toUInt8) = (125 : UInt8) from rfl, e1] at hI
    have HI2 := Lib.hid hI
    have HP := Lib.hid (fun w hE => ParseUint32 (s.extract 2 i) (by rw [← len_data, extract_mid, List.length_take, List.length_drop, len_data]; omega) w hE)
    have HX := Lib.hid (fun r rest (h : s.data.toList = [92, 123] ++ Rc1.hexL r ++ [125] ++ rest) => Rc1.index_brace _ r i rest h e2 e3)
    have HXM := Lib.hid (extract_mid s 2 i)
    clear hI hix hb0 hb1 n1 n2 hE e1 e2 e3
    go_enter Tryd.func45, Tryd.ntmps45
    go_wp2_with (go_at_call 53; ((with_reducible refine (HI2.out _).mono ?_)); rintro e w1 ⟨rfl, rfl⟩)
    refine (HP.out _ HE.out).mono ?_
    rintro e w2 ⟨x, ev, rfl, hx, hb⟩
    rcases hx with ⟨hne, v, hv, rfl, rfl⟩ | ⟨hno, T, pv, rfl⟩
    · rw [HXM.out] at hv
      have HV := Lib.hid hv
      clear hv hne hB
      cases hvr : Lib.validRune (wrap32 (v : Int)) with
      | false =>
        have HR := Lib.hid (fun w => Tryd.utf8_ValidRune (wrap32 (v : Int)) w)
        rw [hvr] at HR
        have HVR := Lib.hid hvr
        clear hvr
        go_wp2_with (go_at_call 54; ((with_reducible refine (HR.out _).mono ?_)); rintro e w3 ⟨rfl, rfl⟩)
        go_ret2
        refine ⟨⟨#[]⟩, 0, rfl, Nat.zero_le _, by decide, Rc1.mk_no _ HN1.out HN2.out ?_ _ _, hb⟩
        rintro ⟨r, rest, hr, h⟩
        have h4 := HV.out
        rw [(HX.out r rest h).2, Rc1.hx_hex _ _ (by unfold Rc1.scalar at hr; omega)] at h4
        obtain rfl := Option.some.inj h4
        have := HVR.out
        rw [wrap_small r hr, valid_scalar r hr] at this
        cases this
      | true =>
        have HR := Lib.hid (fun w => Tryd.utf8_ValidRune (wrap32 (v : Int)) w)
        rw [hvr] at HR
        clear hvr
        go_wp2_with (go_at_call 54; ((with_reducible refine (HR.out _).mono ?_)); rintro e w3 ⟨rfl, rfl⟩)
        go_ret2
        refine ⟨Utf8.encode (wrap32 (v : Int)), i + 1, rfl, by rw [len_data]; omega, encode_size_le _, ⟨fun rest h => absurd ⟨rest, h⟩ HN1.out, fun n rest a b h => absurd ⟨n, rest, a, b, h⟩ HN2.out, fun r rest hr h => ?_⟩, hb⟩
        have hX := HX.out r rest h
        have h4 := HV.out
        rw [hX.2, Rc1.hx_hex _ _ (by unfold Rc1.scalar at hr; omega)] at h4
        obtain rfl := Option.some.inj h4
        rw [wrap_small r hr]
        exact ⟨Rc1.encode_eq r hr, by omega⟩
    · have HNO := Lib.hid hno
      clear hno hB
      go_wp2
      go_ret2
      refine ⟨⟨#[]⟩, 0, rfl, Nat.zero_le _, by decide, Rc1.mk_no _ HN1.out HN2.out ?_ _ _, hb⟩
      rintro ⟨r, rest, hr, h⟩
      have hX := HX.out r rest h
      rcases HNO.out with h5 | h5
      · rw [HXM.out, hX.2] at h5
        exact Rc1.hexL_ne r h5
      · rw [HXM.out, hX.2, Rc1.hx_hex _ _ (by unfold Rc1.scalar at hr; omega)] at h5
        cases h5

theorem pre_true {l : List UInt8} {a b : UInt8} (h : Lib.hasPrefix l [a, b] = true) : ∃ rest, l = a :: b :: rest := by
  unfold Lib.hasPrefix at h
  obtain ⟨t, rfl⟩ := List.isPrefixOf_iff_prefix.1 h
  exact ⟨t, rfl⟩
theorem pre_false {l : List UInt8} {a b : UInt8} (h : Lib.hasPrefix l [a, b] = false) : ¬ ∃ rest, l = a :: b :: rest := by
  rintro ⟨rest, rfl⟩
  simp [Lib.hasPrefix] at h

theorem byte_str (w : World) (v : Nat) : (convert 36 9 (.slice (some ⟨w.heap.size, 0, none⟩) 1 1)).run Tryd.prog (w.alloc (.cells #[.int .u8 ((v : Int) % 256)] 5)) = .ok (.string ⟨#[UInt8.ofNat v]⟩) (w.alloc (.cells #[.int .u8 ((v : Int) % 256)] 5)) := by
  refine run_convert_bytes_back (w.alloc (.cells #[.int .u8 ((v : Int) % 256)] 5)) 36 9 5 ⟨w.heap.size, 0, none⟩ 1 [UInt8.ofNat v] Tryd.underlying36 Tryd.underlying5 Tryd.underlying9 (fun j hj => ?_)
  obtain rfl : j = 0 := by simpa using hj
  simp [Addr.add]

theorem hex2 (l rest : List UInt8) (n : Nat) (h1 : 128 ≤ n) (h2 : n < 256) (h : l = [92, 33] ++ Rc1.hexL n ++ rest) : (l.drop 2).take (4 - 2) = Rc1.hexL n := by
  rw [h, Rc1.hexL_two n (by omega) h2]; simp

set_option maxHeartbeats 1000000 in
theorem readMark_any (s : ByteArray) (hs : s.size ≤ 1099511627776) (w : World) (hE : Errs w) :
    Calls Tryd.prog 37 #[.string s] w (PostM s.data.toList w) := by
  have HE := Lib.hid hE
  have hB := Below.refl w.heap.size w
  have h1 := fun w => Tryd.strings_HasPrefix s ⟨#[92, 92]⟩ w
  have h2 := fun w => Tryd.strings_HasPrefix s ⟨#[92, 33]⟩ w
  have h3 := fun w => Tryd.strings_HasPrefix s ⟨#[92, 123]⟩ w
  clear hE
  cases c1 : Lib.hasPrefix s.data.toList (⟨#[92, 92]⟩ : ByteArray).data.toList with
  | true =>
    rw [c1] at h1
    have H1 := Lib.hid h1
    obtain ⟨rest, hl⟩ := pre_true c1
    have HL := Lib.hid hl
    clear c1 h1 h2 h3 hl
    go_enter Tryd.func37, Tryd.ntmps37
    go_wp2_with (go_at_call 35; ((with_reducible refine (H1.out _).mono ?_)); rintro e w1 ⟨rfl, rfl⟩)
    go_ret2
    refine ⟨⟨#[92]⟩, 2, rfl, by rw [HL.out]; simp, by decide, ⟨fun _ _ => ⟨rfl, rfl⟩, fun n r _ _ h => ?_, fun n r _ h => ?_⟩, hB⟩
    · rw [HL.out] at h; simp at h
    · rw [HL.out] at h; simp at h
  | false =>
    rw [c1] at h1
    have H1 := Lib.hid h1
    have N1 := Lib.hid (pre_false c1)
    clear c1 h1
    cases c2 : Lib.hasPrefix s.data.toList (⟨#[92, 33]⟩ : ByteArray).data.toList with
    | true =>
      rw [c2] at h2
      have H2 := Lib.hid h2
      obtain ⟨rest, hl⟩ := pre_true c2
      have HL := Lib.hid hl
      have c3 : Lib.hasPrefix s.data.toList (⟨#[92, 123]⟩ : ByteArray).data.toList = false := by
        rw [hl]; rfl
      rw [c3] at h3
      have H3 := Lib.hid h3
      have n3 : ¬ ∃ r rest, Rc1.scalar r ∧ s.data.toList = [92, 123] ++ Rc1.hexL r ++ [125] ++ rest := by rintro ⟨r, rest', -, h⟩; rw [hl] at h; simp at h
      have N3 := Lib.hid n3
      have HZ := Lib.hid (show s.size = rest.length + 2 by rw [← len_data, hl]; simp)
      clear c2 h2 c3 h3 hl n3
      by_cases h4 : 4 ≤ s.size
      · have HP := Lib.hid (fun w hE => ParseUint8 (s.extract 2 4) (by rw [← len_data, extract_mid, List.length_take, List.length_drop, len_data]; omega) w hE)
        have h4' : decide ((4 : Int) ≤ s.size) = true := decide_eq_true (by omega)
        have HXM := Lib.hid (extract_mid s 2 4)
        go_enter Tryd.func37, Tryd.ntmps37
        go_wp2_with (first | (go_at_call 35; ((with_reducible refine (H1.out _).mono ?_)); rintro e w1 ⟨rfl, rfl⟩) | (go_at_call 35; ((with_reducible refine (H2.out _).mono ?_)); rintro e w1 ⟨rfl, rfl⟩))
        refine (HP.out _ HE.out).mono ?_
        rintro e w2 ⟨x, ev, rfl, hx, hb⟩
        rcases hx with ⟨hne, v, hv, rfl, rfl⟩ | ⟨hno, T, pv, rfl⟩
        · have HV := Lib.hid hv
          clear hv hne hB
          have hbs := byte_str w2 v
          go_wp2
          go_ret2
          refine ⟨⟨#[UInt8.ofNat v]⟩, 4, rfl, by rw [len_data]; exact h4, by show 1 ≤ 4; omega, ⟨fun rest h => absurd ⟨rest, h⟩ N1.out, fun n rest' a b h => ?_, fun r rest a h => absurd ⟨r, rest, a, h⟩ N3.out⟩, hb.alloc (by have := hb.size; omega) _⟩
          have h5 := HV.out
          rw [HXM.out, hex2 _ _ n a b h, Rc1.hx_hex _ _ (by omega)] at h5
          obtain rfl := Option.some.inj h5
          exact ⟨rfl, rfl⟩
        · have HNO := Lib.hid hno
          clear hno hB
          go_wp2_with (go_at_call 35; ((with_reducible refine (H3.out _).mono ?_)); rintro e w1 ⟨rfl, rfl⟩)
          go_ret2
          refine ⟨⟨#[]⟩, 0, rfl, Nat.zero_le _, by decide, Rc1.mk_no _ N1.out ?_ N3.out _ _, hb⟩
          rintro ⟨n, rest', a, b, h⟩
          rcases HNO.out with h5 | h5
          · rw [HXM.out, hex2 _ _ n a b h] at h5
            exact Rc1.hexL_ne n h5
          · rw [HXM.out, hex2 _ _ n a b h, Rc1.hx_hex _ _ (by omega)] at h5
            cases h5
      · have h4' : decide ((4 : Int) ≤ s.size) = false := decide_eq_false (by omega)
        go_enter Tryd.func37, Tryd.ntmps37
        go_wp2_with (first | (go_at_call 35; ((with_reducible refine (H1.out _).mono ?_)); rintro e w1 ⟨rfl, rfl⟩) | (go_at_call 35; ((with_reducible refine (H2.out _).mono ?_)); rintro e w1 ⟨rfl, rfl⟩) | (go_at_call 35; ((with_reducible refine (H3.out _).mono ?_)); rintro e w1 ⟨rfl, rfl⟩))
        go_ret2
        refine ⟨⟨#[]⟩, 0, rfl, Nat.zero_le _, by decide, Rc1.mk_no _ N1.out ?_ N3.out _ _, hB⟩
        rintro ⟨n, rest', a, b, h⟩
        have := congrArg List.length h
        rw [len_data, Rc1.hexL_two n (by omega) b] at this
        simp at this; omega
    | false =>
      rw [c2] at h2
      have H2 := Lib.hid h2
      have N2 := Lib.hid (show ¬ ∃ n rest, 128 ≤ n ∧ n < 256 ∧ s.data.toList = [92, 33] ++ Rc1.hexL n ++ rest by
        rintro ⟨n, rest, -, -, h⟩; exact pre_false c2 ⟨_, h⟩)
      clear c2 h2
      cases c3 : Lib.hasPrefix s.data.toList (⟨#[92, 123]⟩ : ByteArray).data.toList with
      | true =>
        rw [c3] at h3
        have H3 := Lib.hid h3
        obtain ⟨rest, hl⟩ := pre_true c3
        have HR := Lib.hid (fun w hE => readRune_any s hs (by rw [← len_data, hl]; simp) (by rw [hl]; rfl) (by rw [hl]; rfl) w hE)
        clear c3 h3 hl
        go_enter Tryd.func37, Tryd.ntmps37
        go_wp2_with (first | (go_at_call 35; ((with_reducible refine (H1.out _).mono ?_)); rintro e w1 ⟨rfl, rfl⟩) | (go_at_call 35; ((with_reducible refine (H2.out _).mono ?_)); rintro e w1 ⟨rfl, rfl⟩) | (go_at_call 35; ((with_reducible refine (H3.out _).mono ?_)); rintro e w1 ⟨rfl, rfl⟩))
        refine (HR.out _ HE.out).mono ?_
        rintro e w2 ⟨p, k, rfl, hk, hp, hM, hb⟩
        have HM := Lib.hid hM
        clear hM
        go_wp2
        go_ret2
        exact ⟨p, k, rfl, hk, hp, HM.out, hb⟩
      | false =>
        rw [c3] at h3
        have H3 := Lib.hid h3
        have N3 := Lib.hid (show ¬ ∃ r rest, Rc1.scalar r ∧ s.data.toList = [92, 123] ++ Rc1.hexL r ++ [125] ++ rest by
          rintro ⟨n, rest, -, h⟩
          exact pre_false c3 ⟨Rc1.hexL n ++ [125] ++ rest, by rw [h]; simp⟩)
        clear c3 h3
        go_enter Tryd.func37, Tryd.ntmps37
        go_wp2_with (first | (go_at_call 35; ((with_reducible refine (H1.out _).mono ?_)); rintro e w1 ⟨rfl, rfl⟩) | (go_at_call 35; ((with_reducible refine (H2.out _).mono ?_)); rintro e w1 ⟨rfl, rfl⟩) | (go_at_call 35; ((with_reducible refine (H3.out _).mono ?_)); rintro e w1 ⟨rfl, rfl⟩))
        go_ret2
        exact ⟨⟨#[]⟩, 0, rfl, Nat.zero_le _, by decide, Rc1.mk_no _ N1.out N2.out N3.out _ _, hB⟩

end Go.Proofs.YtghnjdbamenkgaaDoor
