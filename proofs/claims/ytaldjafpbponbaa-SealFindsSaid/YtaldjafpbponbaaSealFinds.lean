/-
  SealFinds: for every input the law answers true: a sealed text in which some bits are turned, all within 32 beside one another, is refused. Conditions: none.
-/
import Derived.Test.YtaldjafpbponbaaSeLaw
import Derived.Test.YtaldjafpbponbaaSeTurn
import Derived.RegionTactic
import Derived.BigRegion
namespace Go.Proofs.Ytaldjafpbponbaa.sealFinds
open Go.ChangeShapes Go.WideShapes Go.ChangeAt Go.RowKit
open Go.ChangeMaps (open_string shut_string)

def Now (w : World) (b : Nat) (o : List UInt8) (p n k t : Nat) (wr : World) : Prop :=
  ∃ l, Turned o p n k l ∧ BRow b l wr ∧ Below w.heap.size w wr ∧ b < wr.heap.size ∧ (t = 0 ↔ n % 2 ^ k = 0) ∧ t ≤ k ∧ (0 < k → p < 8 * o.length)

theorem Now.pass {w wr : World} {b p n k t : Nat} {o : List UInt8} (h : Now w b o p n k t wr) (hb : n / 2 ^ k % 2 = 0) (hin : p < 8 * o.length) : Now w b o p n (k + 1) t wr := by
  obtain ⟨l, hTu, hR, hBe, hbs, hiff, hmk, _⟩ := h
  have h2 := hTu.pass hb
  exact ⟨l, h2.1, hR, hBe, hbs, by rw [h2.2]; exact hiff, by omega, fun _ => hin⟩

theorem Now.turn {w wr : World} {b p n k t : Nat} {o : List UInt8} (h : Now w b o p n k t wr) (hw : w.heap.size ≤ b) (hb : n / 2 ^ k % 2 = 1) (j : Nat) (hj : j = p + k) (hin : j < 8 * o.length) :
    ∃ c v : UInt8, wr.cell? ⟨b, j / 8, none⟩ = some (.int .u8 (c.toNat : Int)) ∧ wr.frozen? ⟨b, j / 8, none⟩ = false ∧
      bits BinOp.xor IntKind.u8 (c.toNat : Int) (2 ^ (j % 8) % 256) = (v.toNat : Int) ∧ Now w b o p n (k + 1) (t + 1) ((wr.setCell ⟨b, j / 8, none⟩ (.int .u8 (v.toNat : Int))).drew) := by
  obtain ⟨l, hTu, hR, hBe, hbs, hiff, hmk, _⟩ := h
  have hl := hTu.1
  have hq : j / 8 < l.length := by omega
  have hy : 2 ^ (j % 8) < 256 := Nat.pow_lt_pow_right (a := 2) (by decide) (m := j % 8) (n := 8) (by omega)
  have hc := (l[j / 8]).toNat_lt
  have hx := u8_xor_nat (l[j / 8]).toNat (2 ^ (j % 8)) hc hy
  have hv : (UInt8.ofNat ((l[j / 8]).toNat ^^^ 2 ^ (j % 8))).toNat = (l[j / 8]).toNat ^^^ 2 ^ (j % 8) := by
    rw [UInt8.toNat_ofNat']
    exact Nat.mod_eq_of_lt (Nat.xor_lt_two_pow (n := 8) hc hy)
  refine ⟨l[j / 8], UInt8.ofNat ((l[j / 8]).toNat ^^^ 2 ^ (j % 8)), hR.1 (j / 8) hq, hR.2 (j / 8) hq, ?_, ?_⟩
  · have e : (2 ^ (j % 8) % 256 : Int) = ((2 ^ (j % 8) : Nat) : Int) := by
      have h1 : ((2 ^ (j % 8) : Nat) : Int) = 2 ^ (j % 8) := by norm_cast
      rw [← h1]
      generalize 2 ^ (j % 8) = y at hy
      omega
    rw [e, hv]
    exact hx
  · refine ⟨_, ?_, (hR.put (j / 8) hq _).drew, (hBe.setCell (p := ⟨b, j / 8, none⟩) hw _).drew, by simpa using hbs, ⟨fun h => by omega, fun h => absurd h (mod_more_ne hb)⟩, by omega, fun _ => by omega⟩
    subst hj
    exact hTu.turn hb hq

theorem Now.over {w wr : World} {b p n k t cap N : Nat} {o : List UInt8} (h : Now w b o p n k t wr) (hN : N = o.length) :
    ∃ l, (convert 31 9 (.slice (some ⟨b, 0, none⟩) N cap)).run Try.prog wr = .ok (.string ⟨l.toArray⟩) wr ∧ Below w.heap.size w wr ∧ Turned o p n k l ∧ ((t = 0 ∧ n % 2 ^ k = 0) ∨ (0 < t ∧ n % 2 ^ k ≠ 0 ∧ p ≤ 8 * l.length)) := by
  obtain ⟨l, hTu, hR, hBe, hbs, hiff, hmk, hp⟩ := h
  refine ⟨l, hR.back cap N (by rw [hN, hTu.1]), hBe, hTu, ?_⟩
  by_cases ht : t = 0
  · exact .inl ⟨ht, hiff.1 ht⟩
  · have := hp (by omega)
    exact .inr ⟨by omega, fun h => ht (hiff.2 h), by rw [hTu.1]; omega⟩

set_option maxHeartbeats 4000000 in
theorem walkShort (s : ByteArray) (hs : s.size ≤ 2000) (p : Nat) (hp : p < 9223372036854775808) (n : Nat) (hn : n < 4294967296) (h0 : n ≠ 0) (w : World) :
    Calls Try.prog 5 #[.string s, .int .i64 (p : Int), .int .u32 (n : Int)] w fun e w' => e = .returned (.bool true) ∧ Below w.heap.size w w' := by
  have hz := sealed_size s
  have HH := Lib.hid (rel shown_any w)
  have HP := Lib.hid (rel (Put_seal s (by unfold maxLen; omega)) w)
  have hbw := Below.refl w.heap.size w
  have hs' : ¬ (2000 : Int) < s.size := by omega
  have hn0 : ((n : Int) == 0) = false := by simp; omega
  have hp0 : ¬ (p : Int) < 0 := by omega
  have hlo : (sealedB s).data.toList.length = s.size + 4 := by simpa using hz
  have HLO := Lib.hid hlo
  have HT := Lib.hid (fun (l : List UInt8) k (h : Turned (sealedB s).data.toList p n k l) (h0 : n % 2 ^ k ≠ 0) (hp : p ≤ 8 * l.length) => rel (Take_turned h hs hn h0 hp) w)
  have HW := Lib.hid (fun (l : List UInt8) k (h : Turned (sealedB s).data.toList p n k l) (h0 : n % 2 ^ k = 0) => rel (Take_whole h hs h0) w)
  have hcv := fun W => run_bytes_of_string (P := Try.prog) W 9 31 5 (sealedB s) Try.underlying9 Try.underlying31 Try.underlying5
  have HN := Lib.hid hn
  generalize sealedB s = P at HP HLO hcv hlo HT HW hz
  have HL := Lib.hid (show P.size = P.data.toList.length by simp)
  have hpz : (P.size : Int) ≤ 2004 := by omega
  clear hlo hz hn h0
  go_enter Try.func5, Try.ntmps5
  go_wp2_with (first | (go_at_call 9; ((with_reducible refine (HH.out _ (by first | assumption | exact ba (by assumption) _)).mono ?_)); rintro e w1 ⟨rfl, hbw⟩) | (go_at_call 14; ((with_reducible refine (HP.out _ (by first | assumption | exact ba (by assumption) _)).mono ?_)); rintro e w1 ⟨rfl, hbw⟩))
  clear hcv
  have hst := BRow.start w1 P (grownCap w1 P.size 0 5)
  have hbs := below_trans hbw (Below.drew ((Below.refl _ w1).alloc (Nat.le_refl _) (.cells (bytesRow P (grownCap w1 P.size 0 5)) 5 ((bytesRow P (grownCap w1 P.size 0 5)).size, (bytesRow P (grownCap w1 P.size 0 5)).size + 1))))
  generalize grownCap w1 P.size 0 5 = cap at *
  go_loopw [9, 10] (fun t i wr => ∃ k m : Nat, i = .int .i64 k ∧ t = .int .i64 m ∧ k ≤ 32 ∧ m ≤ k ∧ Hid (Now w w1.heap.size P.data.toList p n k m wr)) (fun _ i _ => (32 - intOf i).toNat)
  case atStart => exact ⟨0, 0, rfl, rfl, by omega, by omega, ⟨_, Turned.start _ _ _, hst, hbs, by simp, by simp [Nat.mod_one], by omega, by omega⟩⟩
  case round =>
    obtain ⟨k, m, rfl, rfl, hk, hm, hT⟩ := hrel
    clear hst hbs
    by_cases hlt : k < 32
    · by_cases hin : (p : Int) < 8 * P.size - k
      · have hin' : ¬ (8 * (P.size : Int) - k ≤ p) := by omega
        have ha : bits BinOp.and IntKind.u32 ((n : Int) / 2 ^ k) 1 = ((n / 2 ^ k % 2 : Nat) : Int) := by
          have h := and1 (n / 2 ^ k) (Nat.lt_of_le_of_lt (Nat.div_le_self _ _) HN.out)
          rw [Int.natCast_ediv, Int.natCast_pow] at h
          exact h
        rcases Nat.mod_two_eq_zero_or_one (n / 2 ^ k) with hb | hb <;> rw [hb] at ha
        · have HB := Lib.hid hb
          clear hb
          go_wp2
          go_roundw
          case rel => exact ⟨k + 1, m, by go_num, rfl, by omega, by omega, hT.out.pass HB.out (by have := HL.out; omega)⟩
          case measure => simp [intOf]; omega
        · obtain ⟨j, hj⟩ : ∃ j : Nat, j = p + k := ⟨_, rfl⟩
          obtain ⟨c, v, hcell, hfz, hxv, hnow⟩ := hT.out.turn hbw.size hb j hj (by have := HL.out; omega)
          have hq : (j : Int) / 8 < P.size := by omega
          have hq2 : j / 8 < P.size := by omega
          have h1 : IntKind.i64.wrap ((p : Int) + k) = (j : Int) := by rw [hj]; exact IntWalk.i64_in _ (by omega)
          have HNOW := Lib.hid hnow
          clear hj hb hnow hT
          go_wp2
          go_region
          go_wp2
          go_roundw
          case rel => exact ⟨k + 1, m + 1, by go_num, by go_num, by omega, by omega, HNOW⟩
          case measure => simp [intOf]; omega
      · have hin' : (8 * (P.size : Int) - k ≤ p) := by omega
        obtain ⟨l, hbk, hba, hTu, hor⟩ := hT.out.over (cap := cap) HL.out
        rcases hor with ⟨rfl, h0⟩ | ⟨hm0, h0, hp8⟩
        · have HQ := Lib.hid (HW.out l k hTu h0)
          generalize ByteArray.mk l.toArray = Q at hbk HQ
          clear hTu h0 hT
          go_wp2_with (go_at_call 10; ((with_reducible refine (HQ.out _ (by first | assumption | exact ba (by assumption) _)).mono ?_)); rintro e w1 ⟨rfl, hbw⟩)
          go_ret
          exact ⟨rfl, hbw⟩
        · have HQ := Lib.hid (HT.out l k hTu h0 hp8)
          have hm1 : ((m : Int) == 0) = false := by simp; omega
          generalize ByteArray.mk l.toArray = Q at hbk HQ
          clear hTu h0 hT hp8
          go_wp2_with (go_at_call 10; ((with_reducible refine (HQ.out _ (by first | assumption | exact ba (by assumption) _)).mono ?_)); rintro e w1 ⟨rfl, hbw⟩)
          go_ret
          exact ⟨rfl, hbw⟩
    · obtain rfl : k = 32 := by omega
      obtain ⟨l, hbk, hba, hTu, hor⟩ := hT.out.over (cap := cap) HL.out
      rcases hor with ⟨rfl, h0⟩ | ⟨hm0, h0, hp8⟩
      · have HQ := Lib.hid (HW.out l 32 hTu h0)
        generalize ByteArray.mk l.toArray = Q at hbk HQ
        clear hTu h0 hT
        go_wp2_with (go_at_call 10; ((with_reducible refine (HQ.out _ (by first | assumption | exact ba (by assumption) _)).mono ?_)); rintro e w1 ⟨rfl, hbw⟩)
        go_ret
        exact ⟨rfl, hbw⟩
      · have HQ := Lib.hid (HT.out l 32 hTu h0 hp8)
        have hm1 : ((m : Int) == 0) = false := by simp; omega
        generalize ByteArray.mk l.toArray = Q at hbk HQ
        clear hTu h0 hT hp8
        go_wp2_with (go_at_call 10; ((with_reducible refine (HQ.out _ (by first | assumption | exact ba (by assumption) _)).mono ?_)); rintro e w1 ⟨rfl, hbw⟩)
        go_ret
        exact ⟨rfl, hbw⟩

set_option maxHeartbeats 2000000 in
theorem walkLong (s : ByteArray) (p n : Int) (h : 2000 < s.size ∨ (s.size ≤ 2000 ∧ n = 0) ∨ (s.size ≤ 2000 ∧ n ≠ 0 ∧ p < 0)) (w : World) :
    Calls Try.prog 5 #[.string s, .int .i64 p, .int .u32 n] w fun e w' => e = .returned (.bool true) ∧ Below w.heap.size w w' := by
  have HH := Lib.hid (rel shown_any w)
  have hbw := Below.refl w.heap.size w
  rcases h with h | ⟨h1, rfl⟩ | ⟨h1, h2, h3⟩
  · have hs' : (2000 : Int) < s.size := by omega
    clear h
    go_enter Try.func5, Try.ntmps5
    go_wp2_with (go_at_call 9; ((with_reducible refine (HH.out _ (by first | assumption | exact ba (by assumption) _)).mono ?_)); rintro e w1 ⟨rfl, hbw⟩)
    go_ret
    exact ⟨rfl, hbw⟩
  · have hs' : ¬ (2000 : Int) < s.size := by omega
    clear h1
    go_enter Try.func5, Try.ntmps5
    go_wp2_with (go_at_call 9; ((with_reducible refine (HH.out _ (by first | assumption | exact ba (by assumption) _)).mono ?_)); rintro e w1 ⟨rfl, hbw⟩)
    go_ret
    exact ⟨rfl, hbw⟩
  · have hs' : ¬ (2000 : Int) < s.size := by omega
    have hb1 : (n == 0) = false := by simpa using h2
    clear h1 h2
    go_enter Try.func5, Try.ntmps5
    go_wp2_with (go_at_call 9; ((with_reducible refine (HH.out _ (by first | assumption | exact ba (by assumption) _)).mono ?_)); rintro e w1 ⟨rfl, hbw⟩)
    go_ret
    exact ⟨rfl, hbw⟩

theorem walk (a0 : ByteArray) (_ : a0.size ≤ maxLen) (a1 : Int) (w1 : (Lit.int .i64 a1).wf = true) (a2 : Int) (w2 : (Lit.int .u32 a2).wf = true) (w : World) :
    Calls Try.prog 5 #[.string a0, .int .i64 a1, .int .u32 a2] w fun e w' => e = .returned (.bool true) ∧ Below w.heap.size w w' := by
  by_cases h1 : a0.size ≤ 2000
  · by_cases h2 : a2 = 0
    · exact walkLong a0 a1 a2 (.inr (.inl ⟨h1, h2⟩)) w
    · by_cases h3 : a1 < 0
      · exact walkLong a0 a1 a2 (.inr (.inr ⟨h1, h2, h3⟩)) w
      · obtain ⟨n, rfl, hn⟩ := nat_of32 w2
        have hp : a1 ≤ 9223372036854775807 := by
          simp only [Lit.wf, Bool.and_eq_true, decide_eq_true_eq] at w1
          exact w1.2
        obtain ⟨p, rfl⟩ : ∃ p : Nat, a1 = (p : Int) := ⟨a1.toNat, by omega⟩
        exact walkShort a0 h1 p (by omega) n hn (by omega) w
  · exact walkLong a0 a1 a2 (.inl (by omega)) w

set_option maxRecDepth 100000 in
theorem lifted (os : Os) (started : os.Started) (H : Type) (enc : TypeId × Value → H) :
    ReturnsInHanded {} Try.checked os 5 .any (Rows.sealFindsSpec.pre6 enc Try.prog Try.f5 Rows.sealFindsRow.domain false) (Rows.sealFindsSpec.post enc Try.prog Try.f5 false true false false) := by
  refine returnsInHanded_of_change (C := Try.checked) own started (by kernel_rfl) Try.func5
    (ChangeSpec.witness6 (enc := enc) (C := Try.checked) false ⟨#[], #[.string ByteArray.empty, .int .i64 0, .int .u32 0], []⟩ 8 (by kernel_rfl) (by kernel_rfl) (by kernel_rfl) (by kernel_rfl)) ?_
  intro W base args ds gs before hval0 hW _ _
  have hval : ∀ (j : Nat) t v, Try.f5.params[j]? = some t → args[j]? = some v → Value.okWide Try.prog W .any base t v := hval0
  have hW' := hW
  obtain ⟨p, q, hA0, hV, rfl, hfz, hnd⟩ := hW
  have hA : DataW.TrodAll enc Try.prog W 0 (fun _ => true) true Try.f5.params.toList args.toList ds p := hA0
  rw [Try.params5] at hA hval
  obtain ⟨v0, vs0, d0, ds0, p0, q0, hargs, rfl, rfl, h0, r0⟩ := trodAll_cons hA
  obtain ⟨v1, vs1, d1, ds1, p1, q1, rfl, rfl, rfl, h1, r1⟩ := trodAll_cons r0
  obtain ⟨v2, vs2, d2, ds2, p2, q2, rfl, rfl, rfl, h2, r2⟩ := trodAll_cons r1
  obtain ⟨rfl, rfl, rfl⟩ := trodAll_nil r2
  obtain rfl : args = #[v0, v1, v2] := by cases args; simp_all
  obtain ⟨rfl, rfl⟩ := trodVars_none hV
  obtain ⟨a0, rfl, rfl, rfl, w0⟩ := open_string Try.underlying9 (hval 0 9 v0 rfl rfl) h0
  obtain ⟨a1, rfl, rfl, rfl, w1⟩ := open_int Try.underlying3 (hval 1 3 v1 rfl rfl) h1
  obtain ⟨a2, rfl, rfl, rfl, w2⟩ := open_int Try.underlying26 (hval 2 26 v2 rfl rfl) h2
  clear hA0 hval0
  simp only [List.append_nil] at hW'
  refine (walk a0 w0 a1 w1 a2 w2 W).mono fun e W' ⟨he, bel⟩ => ?_
  subst he
  exact ⟨_, rfl, _, _, _, [], _, [], hW', trodAll_mk1 (shut_bool Try.underlying4 _), (trodAll_cons_mk (shut_string Try.underlying9 w0) (trodAll_cons_mk (shut_int Try.underlying3 w1) (trodAll_cons_mk (shut_int Try.underlying26 w2) trodAll_mk0))), rfl, bel.frame _, fun h => by cases h⟩

theorem holds : Rows.SealFindsSaid :=
  OpenClaim.holds_of_wide 5 Try.f5 rfl rfl rfl rfl rfl rfl rfl ⟨rfl, rfl, rfl, rfl, rfl⟩ rfl rfl rfl rfl rfl (by kernel_rfl) Try.func5 (by kernel_rfl)
    (of_decide_eq_true (by kernel_rfl)) (by unfold Func.isWrapper; first | (rw [if_pos (by decide +kernel)]; kernel_rfl) | (rw [if_neg (by decide +kernel)]; exact ⟨rfl, rfl⟩))
    (fun os started H enc _ => lifted os started H enc)

end Go.Proofs.Ytaldjafpbponbaa.sealFinds
