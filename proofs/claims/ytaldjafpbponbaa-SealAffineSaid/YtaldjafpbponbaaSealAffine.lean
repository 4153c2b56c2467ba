/-
  SealAffine: for every input the law answers true: of three texts of one length, put together bit by bit, the sum is that of their sums. Conditions: none.
-/
import Derived.Test.YtaldjafpbponbaaSeLaw
import Derived.Test.YtaldjafpbponbaaSeBytes
import Derived.RegionTactic
import Derived.BigRegion
namespace Go.Proofs.Ytaldjafpbponbaa.sealAffine
open Go.ChangeShapes Go.WideShapes Go.ChangeAt Go.RowKit
open Go.ChangeMaps (open_string shut_string)

theorem xor3 (x y z : UInt8) : bits BinOp.xor IntKind.u8 (bits BinOp.xor IntKind.u8 (x.toNat : Int) (y.toNat : Int)) (z.toNat : Int) = (((x ^^^ y ^^^ z).toNat : Nat) : Int) := by
  have hx := x.toNat_lt
  have hy := y.toNat_lt
  have hz := z.toNat_lt
  rw [u8_xor_nat _ _ hx hy, u8_xor_nat _ _ (Nat.xor_lt_two_pow (n := 8) hx hy) hz, UInt8.toNat_xor, UInt8.toNat_xor]

theorem size_list (z : List UInt8) : (ByteArray.mk z.toArray).size = z.length := by
  show z.toArray.size = _
  simp

set_option maxHeartbeats 4000000 in
theorem walkShort (a b c : ByteArray) (hs : a.size ≤ 1000) (hb : b.size = a.size) (hc : c.size = a.size) (w : World) :
    Calls Try.prog 6 #[.string a, .string b, .string c] w fun e w' => e = .returned (.bool true) ∧ Below w.heap.size w w' := by
  obtain ⟨z, hz⟩ : ∃ z, z = Rc3.zip (Rc3.zip a.data.toList b.data.toList) c.data.toList := ⟨_, rfl⟩
  have hab : a.data.toList.length = b.data.toList.length := by simp [hb]
  have hac : a.data.toList.length = c.data.toList.length := by simp [hc]
  have hla : a.data.toList.length = a.size := by simp
  have hzl : z.length = a.data.toList.length := by rw [hz, Rc3.zip_length _ _ (by rw [Rc3.zip_length _ _ hab, hac]), Rc3.zip_length _ _ hab]
  have HH := Lib.hid (rel shown_any w)
  have HA := Lib.hid (rel (Sum_any a (by unfold maxLen; omega)) w)
  have HB := Lib.hid (rel (Sum_any b (by unfold maxLen; omega)) w)
  have HC := Lib.hid (rel (Sum_any c (by unfold maxLen; omega)) w)
  have HZ := Lib.hid (rel (Sum_any ⟨z.toArray⟩ (by rw [size_list]; unfold maxLen; omega)) w)
  have HE : Hid (Rc3.crc z = Rc3.crc a.data.toList ^^^ Rc3.crc b.data.toList ^^^ Rc3.crc c.data.toList) := by
    rw [hz]
    exact Rc3.crc_affine _ _ _ hab hac
  have hx1 : bits BinOp.xor IntKind.u32 ((Rc3.crc a.data.toList : Nat) : Int) ((Rc3.crc b.data.toList : Nat) : Int) = ((Rc3.crc a.data.toList ^^^ Rc3.crc b.data.toList : Nat) : Int) := u32_xor_nat _ _ (Rc3.crc_lt _) (Rc3.crc_lt _)
  have hx2 : bits BinOp.xor IntKind.u32 ((Rc3.crc a.data.toList ^^^ Rc3.crc b.data.toList : Nat) : Int) ((Rc3.crc c.data.toList : Nat) : Int) = ((Rc3.crc z : Nat) : Int) := by
    rw [HE.out]
    exact u32_xor_nat _ _ (Nat.xor_lt_two_pow (n := 32) (Rc3.crc_lt _) (Rc3.crc_lt _)) (Rc3.crc_lt _)
  have hzz : Rc3.crc (ByteArray.mk z.toArray).data.toList = Rc3.crc z := rfl
  rw [hzz] at HZ
  clear hzz HE
  generalize Rc3.crc z = d at HZ hx2
  generalize Rc3.crc c.data.toList = cc at HC hx2
  generalize Rc3.crc b.data.toList = cb at HB hx1 hx2
  generalize Rc3.crc a.data.toList = ca at HA hx1 hx2
  generalize ca ^^^ cb = cx at hx1 hx2
  have HG : Hid (∀ k (h1 : k < a.size) (h2 : k < b.size) (h3 : k < c.size) (h4 : k < z.length), z[k] = a[k] ^^^ b[k] ^^^ c[k]) := by
    intro k h1 h2 h3 h4
    have g1 := zip_get (Rc3.zip a.data.toList b.data.toList) c.data.toList k (by rw [Rc3.zip_length _ _ hab]; omega) (by omega)
    have g2 := zip_get a.data.toList b.data.toList k (by omega) (by omega)
    subst hz
    rw [g1, g2]
    rfl
  have HZL := Lib.hid hzl
  have HLA := Lib.hid hla
  clear hz hzl hab hac hla
  have hbw := Below.refl w.heap.size w
  have hs' : ¬ (1000 : Int) < a.size := by omega
  have hb1 : ((b.size : Int) != (a.size : Int)) = false := by simp [hb]
  have hc1 : ((c.size : Int) != (a.size : Int)) = false := by simp [hc]
  have HBS := Lib.hid hb
  have HCS := Lib.hid hc
  clear hb hc
  have hcv := fun W => run_bytes_of_string (P := Try.prog) W 9 31 5 a Try.underlying9 Try.underlying31 Try.underlying5
  go_enter Try.func6, Try.ntmps6
  go_wp2_with (go_at_call 9; ((with_reducible refine (HH.out _ (by first | assumption | exact ba (by assumption) _)).mono ?_)); rintro e w1 ⟨rfl, hbw⟩)
  clear hcv
  have hst := BRow.start w1 a (grownCap w1 a.size 0 5)
  have hbs := below_trans hbw (Below.drew ((Below.refl _ w1).alloc (Nat.le_refl _) (.cells (bytesRow a (grownCap w1 a.size 0 5)) 5 ((bytesRow a (grownCap w1 a.size 0 5)).size, (bytesRow a (grownCap w1 a.size 0 5)).size + 1))))
  generalize grownCap w1 a.size 0 5 = cap at *
  go_loopw [9] (fun i wr => ∃ k : Nat, i = .int .i64 k ∧ k ≤ a.size ∧ Hid (BRow w1.heap.size (z.take k ++ a.data.toList.drop k) wr ∧ Below w.heap.size w wr ∧ w1.heap.size < wr.heap.size)) (fun i _ => (a.size - intOf i).toNat)
  case atStart => exact ⟨0, rfl, by omega, ⟨by simpa using hst, hbs, by simp⟩⟩
  case round =>
    obtain ⟨k, rfl, hk, hT⟩ := hrel
    clear hst hbs
    by_cases hlt : k < a.size
    · have hzk := HZL.out
      have hak := HLA.out
      have hbk := HBS.out
      have hck := HCS.out
      have hml := mix_length a.data.toList z k hzk
      have hcell : wr.cell? ⟨w1.heap.size, k, none⟩ = some (.int .u8 (a[k].toNat : Int)) := by
        have hcell := hT.out.1.1 k (by omega)
        rw [mix_at a.data.toList z k hzk (by omega)] at hcell
        exact hcell
      have hfz := hT.out.1.2 k (by omega)
      have h2 : k < b.size := by omega
      have h3 : k < c.size := by omega
      have hx := xor3 a[k] b[k] c[k]
      rw [← HG.out k hlt h2 h3 (by omega)] at hx
      have HPUT := Lib.hid (hT.out.1.put k (by omega) (z[k]'(by omega)))
      rw [mix_set a.data.toList z k hzk (by omega)] at HPUT
      have hia : (k : Int) < a.size := by omega
      have hib : (k : Int) < b.size := by omega
      have hic : (k : Int) < c.size := by omega
      generalize z[k]'(by omega) = v at hx HPUT
      clear hzk hak hbk hck hml
      go_wp2
      go_region
      go_wp2
      go_roundw
      case rel => exact ⟨k + 1, by go_num, by omega, ⟨HPUT.out.drew, (hT.out.2.1.setCell (p := ⟨w1.heap.size, k, none⟩) hbw.size _).drew, by have := hT.out.2.2; simpa using this⟩⟩
      case measure => simp [intOf]; omega
    · obtain rfl : k = a.size := by omega
      have hba := hT.out.2.1
      have hbk : (convert 31 9 (.slice (some ⟨w1.heap.size, 0, none⟩) a.size cap)).run Try.prog wr = .ok (.string ⟨z.toArray⟩) wr := by
        have := hT.out.1.back cap a.size (by rw [mix_length _ _ _ HZL.out, HLA.out])
        rw [List.drop_of_length_le (by rw [HLA.out]; exact Nat.le_refl _), List.append_nil, List.take_of_length_le (by rw [HZL.out, HLA.out]; exact Nat.le_refl _)] at this
        exact this
      go_wp2_with (first | (go_at_call 12; ((with_reducible refine (HZ.out _ (by first | assumption | exact ba (by assumption) _)).mono ?_)); rintro e w1 ⟨rfl, hbw⟩) | (go_at_call 12; ((with_reducible refine (HA.out _ (by first | assumption | exact ba (by assumption) _)).mono ?_)); rintro e w1 ⟨rfl, hbw⟩) | (go_at_call 12; ((with_reducible refine (HB.out _ (by first | assumption | exact ba (by assumption) _)).mono ?_)); rintro e w1 ⟨rfl, hbw⟩) | (go_at_call 12; ((with_reducible refine (HC.out _ (by first | assumption | exact ba (by assumption) _)).mono ?_)); rintro e w1 ⟨rfl, hbw⟩))
      go_ret
      exact ⟨rfl, hbw⟩

set_option maxHeartbeats 2000000 in
theorem walkLong (a b c : ByteArray) (h : 1000 < a.size ∨ (a.size ≤ 1000 ∧ b.size ≠ a.size) ∨ (a.size ≤ 1000 ∧ b.size = a.size ∧ c.size ≠ a.size)) (w : World) :
    Calls Try.prog 6 #[.string a, .string b, .string c] w fun e w' => e = .returned (.bool true) ∧ Below w.heap.size w w' := by
  have HH := Lib.hid (rel shown_any w)
  have hbw := Below.refl w.heap.size w
  rcases h with h | ⟨h1, h2⟩ | ⟨h1, h2, h3⟩
  · have hs' : (1000 : Int) < a.size := by omega
    clear h
    go_enter Try.func6, Try.ntmps6
    go_wp2_with (go_at_call 9; ((with_reducible refine (HH.out _ (by first | assumption | exact ba (by assumption) _)).mono ?_)); rintro e w1 ⟨rfl, hbw⟩)
    go_ret
    exact ⟨rfl, hbw⟩
  · have hs' : ¬ (1000 : Int) < a.size := by omega
    have hb1 : ((b.size : Int) != (a.size : Int)) = true := by simp; omega
    clear h1 h2
    go_enter Try.func6, Try.ntmps6
    go_wp2_with (go_at_call 9; ((with_reducible refine (HH.out _ (by first | assumption | exact ba (by assumption) _)).mono ?_)); rintro e w1 ⟨rfl, hbw⟩)
    go_ret
    exact ⟨rfl, hbw⟩
  · have hs' : ¬ (1000 : Int) < a.size := by omega
    have hb1 : ((b.size : Int) != (a.size : Int)) = false := by simp [h2]
    have hc1 : ((c.size : Int) != (a.size : Int)) = true := by simp; omega
    clear h1 h2 h3
    go_enter Try.func6, Try.ntmps6
    go_wp2_with (go_at_call 9; ((with_reducible refine (HH.out _ (by first | assumption | exact ba (by assumption) _)).mono ?_)); rintro e w1 ⟨rfl, hbw⟩)
    go_ret
    exact ⟨rfl, hbw⟩

theorem walk (a0 : ByteArray) (_ : a0.size ≤ maxLen) (a1 : ByteArray) (_ : a1.size ≤ maxLen) (a2 : ByteArray) (_ : a2.size ≤ maxLen) (w : World) :
    Calls Try.prog 6 #[.string a0, .string a1, .string a2] w fun e w' => e = .returned (.bool true) ∧ Below w.heap.size w w' := by
  by_cases h1 : a0.size ≤ 1000
  · by_cases h2 : a1.size = a0.size
    · by_cases h3 : a2.size = a0.size
      · exact walkShort a0 a1 a2 h1 h2 h3 w
      · exact walkLong a0 a1 a2 (.inr (.inr ⟨h1, h2, h3⟩)) w
    · exact walkLong a0 a1 a2 (.inr (.inl ⟨h1, h2⟩)) w
  · exact walkLong a0 a1 a2 (.inl (by omega)) w

set_option maxRecDepth 100000 in
theorem lifted (os : Os) (started : os.Started) (H : Type) (enc : TypeId × Value → H) :
    ReturnsInHanded {} Try.checked os 6 .any (Rows.sealAffineSpec.pre6 enc Try.prog Try.f6 Rows.sealAffineRow.domain false) (Rows.sealAffineSpec.post enc Try.prog Try.f6 false true false false) := by
  refine returnsInHanded_of_change (C := Try.checked) own started (by kernel_rfl) Try.func6
    (ChangeSpec.witness6 (enc := enc) (C := Try.checked) false ⟨#[], #[.string ByteArray.empty, .string ByteArray.empty, .string ByteArray.empty], []⟩ 8 (by kernel_rfl) (by kernel_rfl) (by kernel_rfl) (by kernel_rfl)) ?_
  intro W base args ds gs before hval0 hW _ _
  have hval : ∀ (j : Nat) t v, Try.f6.params[j]? = some t → args[j]? = some v → Value.okWide Try.prog W .any base t v := hval0
  have hW' := hW
  obtain ⟨p, q, hA0, hV, rfl, hfz, hnd⟩ := hW
  have hA : DataW.TrodAll enc Try.prog W 0 (fun _ => true) true Try.f6.params.toList args.toList ds p := hA0
  rw [Try.params6] at hA hval
  obtain ⟨v0, vs0, d0, ds0, p0, q0, hargs, rfl, rfl, h0, r0⟩ := trodAll_cons hA
  obtain ⟨v1, vs1, d1, ds1, p1, q1, rfl, rfl, rfl, h1, r1⟩ := trodAll_cons r0
  obtain ⟨v2, vs2, d2, ds2, p2, q2, rfl, rfl, rfl, h2, r2⟩ := trodAll_cons r1
  obtain ⟨rfl, rfl, rfl⟩ := trodAll_nil r2
  obtain rfl : args = #[v0, v1, v2] := by cases args; simp_all
  obtain ⟨rfl, rfl⟩ := trodVars_none hV
  obtain ⟨a0, rfl, rfl, rfl, w0⟩ := open_string Try.underlying9 (hval 0 9 v0 rfl rfl) h0
  obtain ⟨a1, rfl, rfl, rfl, w1⟩ := open_string Try.underlying9 (hval 1 9 v1 rfl rfl) h1
  obtain ⟨a2, rfl, rfl, rfl, w2⟩ := open_string Try.underlying9 (hval 2 9 v2 rfl rfl) h2
  clear hA0 hval0
  simp only [List.append_nil] at hW'
  refine (walk a0 w0 a1 w1 a2 w2 W).mono fun e W' ⟨he, bel⟩ => ?_
  subst he
  exact ⟨_, rfl, _, _, _, [], _, [], hW', trodAll_mk1 (shut_bool Try.underlying4 _), (trodAll_cons_mk (shut_string Try.underlying9 w0) (trodAll_cons_mk (shut_string Try.underlying9 w1) (trodAll_cons_mk (shut_string Try.underlying9 w2) trodAll_mk0))), rfl, bel.frame _, fun h => by cases h⟩

theorem holds : Rows.SealAffineSaid :=
  OpenClaim.holds_of_wide 6 Try.f6 rfl rfl rfl rfl rfl rfl rfl ⟨rfl, rfl, rfl, rfl, rfl⟩ rfl rfl rfl rfl rfl (by kernel_rfl) Try.func6 (by kernel_rfl)
    (of_decide_eq_true (by kernel_rfl)) (by unfold Func.isWrapper; first | (rw [if_pos (by decide +kernel)]; kernel_rfl) | (rw [if_neg (by decide +kernel)]; exact ⟨rfl, rfl⟩))
    (fun os started H enc _ => lifted os started H enc)

end Go.Proofs.Ytaldjafpbponbaa.sealAffine
