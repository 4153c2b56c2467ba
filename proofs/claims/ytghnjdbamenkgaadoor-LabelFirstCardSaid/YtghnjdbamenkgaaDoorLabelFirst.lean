/-
  LabelFirst: for every input the law answers true: the first runes of the first runes are the fewer of both, and one rune at a time the text comes to its end. Condition: the listed variables of Go's own library start as the program's text lays them (the card ties them).
-/
import Derived.Test.YtghnjdbamenkgaaDoorLaw
import Derived.Test.YtghnjdbamenkgaaDoorMathL
namespace Go.Proofs.YtghnjdbamenkgaaDoor.labelFirst
open Go.ChangeShapes Go.WideShapes Go.ChangeAt Go.RowKit
open Go.ChangeMaps (open_string shut_string)

/-- How long a string is, for a measure. -/
def szOf : Value → Nat
  | .string s => s.size
  | _ => 0

theorem size_mk (l : List UInt8) : (⟨l.toArray⟩ : ByteArray).size = l.length := by simp [ByteArray.size]

theorem first_one (l : List UInt8) (h : l ≠ []) : Rc1.first l 1 = l.take (Rc1.dec l).2 := by
  unfold Rc1.first; rw [Rc1.cut_cons l h]; simp

set_option maxHeartbeats 1000000 in
theorem walk (a0 : ByteArray) (_w0 : a0.size ≤ maxLen) (a1 : Int) (_w1 : (Lit.int .i64 a1).wf = true) (a2 : Int) (_w2 : (Lit.int .i64 a2).wf = true) (w : World) (hT : Tab w) :
    Calls Tryd.prog 9 #[.string a0, .int .i64 a1, .int .i64 a2] w fun e w' => e = .returned (.bool true) ∧ Below w.heap.size w w' := by
  unfold maxLen at _w0
  have HSh := Lib.hid (relT shown_any w hT)
  have HB0 := Below.refl w.heap.size w
  clear hT
  by_cases hs : a0.size ≤ 400
  · have hF := rel (fun w => First_any a0 a1 (by omega) w) w
    obtain ⟨a, ha⟩ : ∃ a : ByteArray, a = ⟨(Rc1.first a0.data.toList a1.toNat).toArray⟩ := ⟨_, rfl⟩
    rw [← ha] at hF
    have hle : a.size ≤ a0.size := by rw [ha, size_mk, ← len_data a0]; exact Rc1.first_len _ _
    have hG := rel (fun w => First_any a a2 (by omega) w) w
    have hM := rel (fun w => First_any a0 (min a1 a2) (by omega) w) w
    have eq : Rc1.first a.data.toList a2.toNat = Rc1.first a0.data.toList (min a1 a2).toNat := by
      rw [ha, Rc1.first_first]
      congr 1; omega
    rw [eq] at hG
    generalize (⟨(Rc1.first a0.data.toList (min a1 a2).toNat).toArray⟩ : ByteArray) = x at hG hM
    have hCs := rel (fun w => Count_any a0 (by omega) w) w
    have hcs : Rc1.count a0.data.toList ≤ a0.size := by have := Rc1.cut_len_le a0.data.toList; rw [len_data] at this; exact this
    have HF := Lib.hid hF; have HG := Lib.hid hG; have HM := Lib.hid hM; have HCs := Lib.hid hCs
    clear hF hG hM hCs ha eq
    go_enter Tryd.func9, Tryd.ntmps9
    go_wp2_with (first | (go_at_call 11; ((with_reducible refine (HSh.out _ (by assumption)).mono ?_)); rintro e w1 ⟨rfl, hbw⟩) | (go_at_call 16; ((with_reducible refine (HF.out _ (by assumption)).mono ?_)); rintro e w1 ⟨rfl, hbw⟩) | (go_at_call 16; ((with_reducible refine (HG.out _ (by assumption)).mono ?_)); rintro e w1 ⟨rfl, hbw⟩) | (go_at_call 16; ((with_reducible refine (HM.out _ (by assumption)).mono ?_)); rintro e w1 ⟨rfl, hbw⟩))
    go_loopw [8, 9, 10] (fun left n _ wr => ∃ (t : ByteArray) (pos m : Nat), left = .string t ∧ n = .int .i64 m ∧ Hid (t.data.toList = a0.data.toList.drop pos) ∧ Rc1.At a0.data.toList pos m ∧ Below w.heap.size w wr) (fun left _ _ _ => szOf left)
    case atStart => exact ⟨a0, 0, 0, rfl, rfl, rfl, Rc1.At.zero _, hbw⟩
    case round =>
      obtain ⟨t, pos, m, rfl, rfl, ht, hA, hbr⟩ := hrel
      have hm := hA.2.2.1
      have hps := hA.1
      rw [len_data] at hps
      have htz : t.size = a0.size - pos := by rw [← len_data, ht.out, drop_size]
      have HTZ := Lib.hid htz
      have htl : t.size ≤ a0.size := by omega
      have HA := Lib.hid hA
      have hie := isEmpty_of t
      clear hA htz
      by_cases hp : pos < a0.size
      · have hne : t.data.toList ≠ [] := by rw [ht.out]; exact drop_ne hp
        rw [decide_eq_false (by have := HTZ.out; omega)] at hie
        have hdf := Rc1.dec_facts _ hne
        have hO := rel (fun w => First_any t 1 (by omega) w) w
        rw [show (1 : Int).toNat = 1 from rfl, first_one _ hne] at hO
        obtain ⟨o, ho⟩ : ∃ o : ByteArray, o = ⟨(t.data.toList.take (Rc1.dec t.data.toList).2).toArray⟩ := ⟨_, rfl⟩
        rw [← ho] at hO
        have hoz : o.size = (Rc1.dec t.data.toList).2 := by rw [ho, size_mk, List.length_take]; omega
        have hCo := rel (fun w => Count_any o (by omega) w) w
        have hc1 : Rc1.count o.data.toList = 1 := by
          rw [ho, ← first_one _ hne, Rc1.count_first]
          have : 0 < Rc1.count t.data.toList := List.length_pos_iff.2 (Rc1.cut_ne _ hne)
          omega
        rw [hc1] at hCo
        have hoe := isEmpty_of o
        rw [decide_eq_false (by omega)] at hoe
        have h1 : 1 ≤ o.size := by omega
        have h4 : o.size ≤ 4 := by omega
        have h4' : decide ((4 : Int) < o.size) = false := decide_eq_false (by omega)
        have hot : o.size ≤ t.size := by have := hdf.2.2.1; rw [len_data] at this; omega
        have HO := Lib.hid hO; have HCo := Lib.hid hCo; have HOZ := Lib.hid hoz; have HHO := Lib.hid ho
        clear hO hCo hoz ho hc1 hdf hne
        go_wp2_with (first | (go_at_call 16; ((with_reducible refine (HO.out _ (by assumption)).mono ?_)); rintro e w1 ⟨rfl, hbw2⟩) | (go_at_call 14; ((with_reducible refine (HCo.out _ (by assumption)).mono ?_)); rintro e w1 ⟨rfl, hbw2⟩))
        go_roundw
        case rel =>
          refine ⟨t.extract o.size t.size, pos + (Rc1.dec (a0.data.toList.drop pos)).2, m + 1, rfl, by go_num, ?_, HA.out.step (by rw [len_data]; exact hp), hbw2⟩
          show _ = _
          rw [extract_list, ht.out, List.drop_drop, HOZ.out, ht.out]
        case measure =>
          simp [szOf]; omega
      · rw [decide_eq_true (by have := HTZ.out; omega)] at hie
        have hmc := HA.out.over (by rw [len_data]; exact hp)
        have hmc' : (((m : Nat) : Int) == (Rc1.count a0.data.toList : Nat)) = true := by rw [beq_iff_eq, hmc]; rfl
        have hmc2 : (m == Rc1.count a0.data.toList) = true := by rw [beq_iff_eq, hmc]; rfl
        clear hmc
        go_wp2_with (go_at_call 14; ((with_reducible refine (HCs.out _ (by assumption)).mono ?_)); rintro e w1 ⟨rfl, hbw2⟩)
        go_ret
        exact ⟨rfl, hbw2⟩
  · have hs' : (400 : Int) < a0.size := by omega
    go_enter Tryd.func9, Tryd.ntmps9
    go_wp2_with (go_at_call 11; ((with_reducible refine (HSh.out _ (by assumption)).mono ?_)); rintro e w1 ⟨rfl, hbw⟩)
    go_ret
    exact ⟨rfl, hbw⟩

set_option maxRecDepth 100000 in
theorem lifted (os : Os) (started : os.Started) (H : Type) (enc : TypeId × Value → H) :
    ReturnsInHanded {} Tryd.checked os 9 .any (fun w args => (Rows.labelFirstSpec.pre enc Tryd.prog Tryd.f9 [] false w args ∧ laidMetH Tryd.prog laid3 w) ∧ sizedMet enc Tryd.prog Tryd.f9 (OpenSpec.ofChange Rows.labelFirstSpec) false w args)
      (Rows.labelFirstSpec.post enc Tryd.prog Tryd.f9 false true false false) := by
  refine returnsInHanded_of_change_and (C := Tryd.checked) (X := fun w _ => laidMetH Tryd.prog laid3 w) (fun _ _ _ hh h => h.of_heap hh) own started (by kernel_rfl) Tryd.func9
    (ChangeSpec.witness_shaped (enc := enc) (C := Tryd.checked) (os := os) (X := fun w _ => laidMetH Tryd.prog laid3 w) false (World.doorLaid Tryd.prog 400 os) #[.string ByteArray.empty, .int .i64 0, .int .i64 0] 8 rfl (World.shaped_of_RefB (by kernel_rfl) (by kernel_rfl)) (by kernel_rfl) (by kernel_rfl) (by kernel_rfl) (door_met os _)) ?_
  intro W base args ds gs before hval0 hW _ _ hL _
  have hval : ∀ (j : Nat) t v, Tryd.f9.params[j]? = some t → args[j]? = some v → Value.okWide Tryd.prog W .any base t v := hval0
  have hW' := hW
  obtain ⟨p, q, hA0, hV, rfl, hfz, hnd⟩ := hW
  have hA : DataW.TrodAll enc Tryd.prog W 0 (fun _ => true) true Tryd.f9.params.toList args.toList ds p := hA0
  rw [Tryd.params9] at hA hval
  obtain ⟨v0, vs0, d0, ds0, p0, q0, hargs, rfl, rfl, h0, r0⟩ := trodAll_cons hA
  obtain ⟨v1, vs1, d1, ds1, p1, q1, rfl, rfl, rfl, h1, r1⟩ := trodAll_cons r0
  obtain ⟨v2, vs2, d2, ds2, p2, q2, rfl, rfl, rfl, h2, r2⟩ := trodAll_cons r1
  obtain ⟨rfl, rfl, rfl⟩ := trodAll_nil r2
  obtain rfl : args = #[v0, v1, v2] := by cases args; simp_all
  obtain ⟨rfl, rfl⟩ := trodVars_none hV
  obtain ⟨a0, rfl, rfl, rfl, w0⟩ := open_string Tryd.underlying9 (hval 0 9 v0 rfl rfl) h0
  obtain ⟨a1, rfl, rfl, rfl, w1⟩ := open_int Tryd.underlying3 (hval 1 3 v1 rfl rfl) h1
  obtain ⟨a2, rfl, rfl, rfl, w2⟩ := open_int Tryd.underlying3 (hval 2 3 v2 rfl rfl) h2
  clear hA0 hval0
  simp only [List.append_nil] at hW'
  refine (walk a0 w0 a1 w1 a2 w2 W (of_laid hL)).mono fun e W' ⟨he, hg⟩ => ?_
  subst he
  exact ⟨_, rfl, _, _, _, [], _, [], hW', trodAll_mk1 (shut_bool Tryd.underlying4 _), (trodAll_cons_mk (shut_string Tryd.underlying9 w0) (trodAll_cons_mk (shut_int Tryd.underlying3 w1) (trodAll_cons_mk (shut_int Tryd.underlying3 w2) trodAll_mk0))), rfl, hg.frame _, fun h => by cases h⟩

theorem over : Rows.labelFirstRow.holds Tryd.pinned (OpenSpec.ofChange Rows.labelFirstSpec) :=
  OpenClaim.holds_of_wide 9 Tryd.f9 rfl rfl rfl rfl rfl rfl rfl ⟨rfl, rfl, rfl, rfl, rfl⟩ rfl rfl rfl rfl rfl (by kernel_rfl) Tryd.func9 (by kernel_rfl)
    (of_decide_eq_true (by kernel_rfl)) (by unfold Func.isWrapper; first | (rw [if_pos (by decide +kernel)]; kernel_rfl) | (rw [if_neg (by decide +kernel)]; exact ⟨rfl, rfl⟩))
    (fun os started H enc _ => lifted os started H enc)

theorem holds : Rows.LabelFirstCardSaid :=
  Claim7.holds_tied_plain_at .later [] [.data, .data, .data] true Rows.labelFirstCard.stood.harness Rows.labelFirstCard.stood.looks
    over (fun _ h => by cases h) (by kernel_rfl) (fun _ h => by cases h) labelFirst_row_tie rfl ⟨rfl, rfl⟩ (by kernel_rfl) rfl
    (fun f fn hf hfn => by
      obtain rfl : f = 9 := Option.some.inj (hf.symm.trans (by kernel_rfl))
      obtain rfl : fn = Tryd.f9 := (Option.some.inj (Tryd.func9.symm.trans hfn)).symm
      exact ⟨by kernel_rfl, fun j t ht => by
        rw [Tryd.params9] at ht
        have hm : t ∈ [9, 3, 3] := by simpa using Array.mem_of_getElem? ht
        have hall : ([9, 3, 3].all fun u => !Tryd.prog.wantsStandIn u) = true := by kernel_rfl
        exact (show Tryd.prog.wantsStandIn t = false by simpa using List.all_eq_true.1 hall t hm)⟩)
    (by kernel_rfl)

end Go.Proofs.YtghnjdbamenkgaaDoor.labelFirst
