/-
  HeadEither: for every input the law answers true: of two heads the later one counts; if some bits of it are turned, within 32 beside one another, the elder one does. Conditions: none.
-/
import Derived.Test.YtnknojkihjpjkaaHdNot
import Derived.Deep.CutRange
namespace Go.Proofs.Ytnknojkihjpjkaa.headEither
open Go.ChangeShapes Go.WideShapes Go.ChangeAt Go.RowKit Go.Rc5 Go.Rc6
open Go.ChangeMaps (open_string shut_string)

def Now (w : World) (b : Nat) (o : List UInt8) (p n k : Nat) (wr : World) : Prop :=
  ∃ l, Turned o p n k l ∧ BRow b l wr ∧ Below w.heap.size w wr ∧ b < wr.heap.size

theorem Now.pass {w wr : World} {b p n k : Nat} {o : List UInt8} (h : Now w b o p n k wr) (hb : n / 2 ^ k % 2 = 0) : Now w b o p n (k + 1) wr := by
  obtain ⟨l, hTu, hR, hBe, hbs⟩ := h
  exact ⟨l, (hTu.pass hb).1, hR, hBe, hbs⟩

theorem Now.turn {w wr : World} {b p n k : Nat} {o : List UInt8} (h : Now w b o p n k wr) (hw : w.heap.size ≤ b) (hb : n / 2 ^ k % 2 = 1) (j : Nat) (hj : j = p + k) (hin : j < 8 * o.length) :
    ∃ c v : UInt8, wr.cell? ⟨b, j / 8, none⟩ = some (.int .u8 (c.toNat : Int)) ∧ wr.frozen? ⟨b, j / 8, none⟩ = false ∧
      bits BinOp.xor IntKind.u8 (c.toNat : Int) (2 ^ (j % 8) % 256) = (v.toNat : Int) ∧ Now w b o p n (k + 1) ((wr.setCell ⟨b, j / 8, none⟩ (.int .u8 (v.toNat : Int))).drew) := by
  obtain ⟨l, hTu, hR, hBe, hbs⟩ := h
  have hl := hTu.1
  have hq : j / 8 < l.length := by omega
  have hy : 2 ^ (j % 8) < 256 := Nat.pow_lt_pow_right (a := 2) (by decide) (m := j % 8) (n := 8) (by omega)
  have hc := (l[j / 8]).toNat_lt
  have hx := u8_xor_nat (l[j / 8]).toNat (2 ^ (j % 8)) hc hy
  have hv : (UInt8.ofNat ((l[j / 8]).toNat ^^^ 2 ^ (j % 8))).toNat = (l[j / 8]).toNat ^^^ 2 ^ (j % 8) := by
    rw [UInt8.toNat_ofNat']
    exact Nat.mod_eq_of_lt (Nat.xor_lt_two_pow (n := 8) hc hy)
  refine ⟨l[j / 8], UInt8.ofNat ((l[j / 8]).toNat ^^^ 2 ^ (j % 8)), hR.1 (j / 8) hq, hR.2 (j / 8) hq, ?_, ?_⟩
  · have e : (2 ^ (j % 8) % 256 : Int) = ((2 ^ (j % 8) : Nat) : Int) := by
      have h1 : ((2 ^ (j % 8) : Nat) : Int) = 2 ^ (j % 8) := by norm_cast
      rw [← h1]
      generalize 2 ^ (j % 8) = y at hy
      omega
    rw [e, hv]
    exact hx
  · refine ⟨_, ?_, (hR.put (j / 8) hq _).drew, (hBe.setCell (p := ⟨b, j / 8, none⟩) hw _).drew, by simpa using hbs⟩
    subst hj
    exact hTu.turn hb hq

theorem Now.over {w wr : World} {b p n cap N : Nat} {o : List UInt8} (h : Now w b o p n 32 wr) (hN : N = o.length) :
    ∃ l, (convert 48 9 (.slice (some ⟨b, 0, none⟩) N cap)).run Try.prog wr = .ok (.string ⟨l.toArray⟩) wr ∧ Below w.heap.size w wr ∧ Turned o p n 32 l := by
  obtain ⟨l, hTu, hR, hBe, hbs⟩ := h
  exact ⟨l, hR.back cap N (by rw [hN, hTu.1]), hBe, hTu⟩

/-- A head's bytes of which some bits are turned are no head's. -/
theorem turned_none {d : Hd} (o : d.Ok) {l : List UInt8} {p n : Nat} (h : Turned (hdB d).data.toList p n 32 l) (hn : n < 4294967296) (h0 : n ≠ 0) (hp : p ≤ 480) : ¬ ∃ h : Hd, h.Ok ∧ hdB h = ⟨l.toArray⟩ := by
  rintro ⟨h', _, e⟩
  have hl : l.length = 64 := by
    rw [h.1, ← size_list, hdB_size d o]
  have hs := h.some hn (by rw [Nat.mod_eq_of_lt (by exact hn)]; exact h0) (by omega)
  refine hs ((sealed_test _ ?_).2 ?_)
  · show 4 ≤ l.toArray.size
    rw [List.size_toArray, hl]
    decide
  · rw [← e]
    unfold hdB
    rw [ahead_sealed]

set_option maxRecDepth 100000 in
set_option maxHeartbeats 4000000 in
theorem long (g1 : Nat) (s1 z1 : Int) (a1 : Option Addr) (n1 c1 : Nat) (g2 : Nat) (s2 z2 : Int) (a2 : Option Addr) (n2 c2 : Nat) (p q : Int) (w : World) (h : 20 < n1 ∨ (n1 ≤ 20 ∧ 20 < n2)) :
    Calls Try.prog 6 #[.agg #[.int .u64 (g1 : Int), .int .i64 s1, .int .i64 z1, .slice a1 n1 c1], .agg #[.int .u64 (g2 : Int), .int .i64 s2, .int .i64 z2, .slice a2 n2 c2], .int .i64 p, .int .u32 q] w fun e w' => e = .returned (.bool true) ∧ Below w.heap.size w w' := by
  have C := ((Crew.start w).block #[.int .u64 (g1 : Int), .int .i64 s1, .int .i64 z1, .slice a1 n1 c1] 25).block #[.int .u64 (g2 : Int), .int .i64 s2, .int .i64 z2, .slice a2 n2 c2] 25
  rw [World.size_alloc] at C
  have HC := Lib.hid C
  clear C
  rcases h with h | ⟨h1, h2⟩
  · have hl1 : (20 : Int) < n1 := by omega
    clear h
    go_enter Try.func6, Try.ntmps6
    go_wp2_with fail
    refine (shown_any _).mono ?_
    rintro e w1 ⟨rfl, hb1⟩
    replace HC := Lib.hid (HC.out.below hb1)
    have p3 := (HC.out.at 0 rfl (j := 3) rfl).1
    clear hb1
    have HB := Lib.hid HC.out.bel
    go_wp2_with fail
    go_ret
    exact ⟨rfl, HB.out⟩
  · have hl1 : ¬ (20 : Int) < n1 := by omega
    have hl2 : (20 : Int) < n2 := by omega
    clear h1 h2
    go_enter Try.func6, Try.ntmps6
    go_wp2_with fail
    refine (shown_any _).mono ?_
    rintro e w1 ⟨rfl, hb1⟩
    replace HC := Lib.hid (HC.out.below hb1)
    have p3 := (HC.out.at 0 rfl (j := 3) rfl).1
    have q3 := (HC.out.at 1 rfl (j := 3) rfl).1
    clear hb1
    have HB := Lib.hid HC.out.bel
    go_wp2_with fail
    go_ret
    exact ⟨rfl, HB.out⟩

set_option maxRecDepth 100000 in
set_option maxHeartbeats 8000000 in
theorem not (g1 : Nat) (s1 z1 : Int) (a1 : Option Addr) (n1 c1 : Nat) (g2 : Nat) (s2 z2 : Int) (a2 : Option Addr) (n2 c2 : Nat) (p q : Int) (w : World) (h1 : n1 ≤ 20) (h2 : n2 ≤ 20) (P Q : ByteArray) (x y : Int)
    (HP : ∀ W, Below w.heap.size w W → Calls Try.prog 10 #[.agg #[.int .u64 (g1 : Int), .int .i64 s1, .int .i64 z1, .slice a1 n1 c1]] W fun e w' => e = .returned (.tuple #[.string P, .int .i64 x]) ∧ Below W.heap.size W w')
    (HQ : ∀ W, Below w.heap.size w W → Calls Try.prog 10 #[.agg #[.int .u64 (g2 : Int), .int .i64 s2, .int .i64 z2, .slice a2 n2 c2]] W fun e w' => e = .returned (.tuple #[.string Q, .int .i64 y]) ∧ Below W.heap.size W w')
    (hx : x = 1 ∨ (x = 0 ∧ y = 1)) :
    Calls Try.prog 6 #[.agg #[.int .u64 (g1 : Int), .int .i64 s1, .int .i64 z1, .slice a1 n1 c1], .agg #[.int .u64 (g2 : Int), .int .i64 s2, .int .i64 z2, .slice a2 n2 c2], .int .i64 p, .int .u32 q] w fun e w' => e = .returned (.bool true) ∧ Below w.heap.size w w' := by
  have C := ((Crew.start w).block #[.int .u64 (g1 : Int), .int .i64 s1, .int .i64 z1, .slice a1 n1 c1] 25).block #[.int .u64 (g2 : Int), .int .i64 s2, .int .i64 z2, .slice a2 n2 c2] 25
  rw [World.size_alloc] at C
  have HC := Lib.hid C
  have hl1 : ¬ (20 : Int) < n1 := by omega
  have hl2 : ¬ (20 : Int) < n2 := by omega
  have GP := Lib.hid HP
  have GQ := Lib.hid HQ
  clear C HP HQ h1 h2
  rcases hx with rfl | ⟨rfl, rfl⟩
  all_goals
    go_enter Try.func6, Try.ntmps6
    go_wp2_with fail
    refine (shown_any _).mono ?_
    rintro e w1 ⟨rfl, hb1⟩
    replace HC := Lib.hid (HC.out.below hb1)
    have p0 := (HC.out.at 0 rfl (j := 0) rfl).1
    have p1 := (HC.out.at 0 rfl (j := 1) rfl).1
    have p2 := (HC.out.at 0 rfl (j := 2) rfl).1
    have p3 := (HC.out.at 0 rfl (j := 3) rfl).1
    have q3 := (HC.out.at 1 rfl (j := 3) rfl).1
    clear hb1
    go_wp2_with fail
    refine (GP.out _ HC.out.bel).mono ?_
    rintro e w2 ⟨rfl, hb2⟩
    replace HC := Lib.hid (HC.out.below hb2)
    clear p0 p1 p2 p3 q3 hb2
    have q0 := (HC.out.at 1 rfl (j := 0) rfl).1
    have q1 := (HC.out.at 1 rfl (j := 1) rfl).1
    have q2 := (HC.out.at 1 rfl (j := 2) rfl).1
    have q3 := (HC.out.at 1 rfl (j := 3) rfl).1
    go_wp2_with fail
    refine (GQ.out _ HC.out.bel).mono ?_
    rintro e w3 ⟨rfl, hb3⟩
    replace HC := Lib.hid (HC.out.below hb3)
    clear q0 q1 q2 q3 hb3
    have HB := Lib.hid HC.out.bel
    go_wp2_with fail
    go_ret
    exact ⟨rfl, HB.out⟩

set_option maxRecDepth 100000 in
set_option maxHeartbeats 32000000 in
theorem fineLater (d1 d2 : Hd) (o1 : d1.Ok) (o2 : d2.Ok) (a1 : Option Addr) (n1 c1 : Nat) (a2 : Option Addr) (n2 c2 : Nat) (p q : Int) (hp2 : p ≤ 9223372036854775807) (hq0 : 0 ≤ q) (hq2 : q < 4294967296) (w : World) (h1 : n1 ≤ 20) (h2 : n2 ≤ 20) (k1 : (castS d1.spans).length = n1) (k2 : (castS d2.spans).length = n2) (j1 : SpansAt w a1 (castS d1.spans)) (j2 : SpansAt w a2 (castS d2.spans))
    (HP : ∀ W, Below w.heap.size w W → Calls Try.prog 10 #[.agg #[.int .u64 (d1.gen : Int), .int .i64 (d1.sectors : Int), .int .i64 (d1.size : Int), .slice a1 n1 c1]] W fun e w' => e = .returned (.tuple #[.string (hdB d1), .int .i64 0]) ∧ Below W.heap.size W w')
    (HQ : ∀ W, Below w.heap.size w W → Calls Try.prog 10 #[.agg #[.int .u64 (d2.gen : Int), .int .i64 (d2.sectors : Int), .int .i64 (d2.size : Int), .slice a2 n2 c2]] W fun e w' => e = .returned (.tuple #[.string (hdB d2), .int .i64 0]) ∧ Below W.heap.size W w')
    (hr : d1.gen < d2.gen) :
    Calls Try.prog 6 #[.agg #[.int .u64 (d1.gen : Int), .int .i64 (d1.sectors : Int), .int .i64 (d1.size : Int), .slice a1 n1 c1], .agg #[.int .u64 (d2.gen : Int), .int .i64 (d2.sectors : Int), .int .i64 (d2.size : Int), .slice a2 n2 c2], .int .i64 p, .int .u32 q] w fun e w' => e = .returned (.bool true) ∧ Below w.heap.size w w' := by
  have C := ((Crew.start w).block #[.int .u64 (d1.gen : Int), .int .i64 (d1.sectors : Int), .int .i64 (d1.size : Int), .slice a1 n1 c1] 25).block #[.int .u64 (d2.gen : Int), .int .i64 (d2.sectors : Int), .int .i64 (d2.size : Int), .slice a2 n2 c2] 25
  rw [World.size_alloc] at C
  have HC := Lib.hid C
  have hl1 : ¬ (20 : Int) < n1 := by omega
  have hl2 : ¬ (20 : Int) < n2 := by omega
  have GP := Lib.hid HP
  have GQ := Lib.hid HQ
  have tA := took_yes o1
  have tB := took_yes o2
  have hX := Choose_all (hdB d1) (hdB d2)
  have hY := Choose_all (hdB d2) (hdB d1)
  unfold ChoseAt at hX hY
  rw [tA, tB] at hX hY
  rw [choice_later rfl rfl hr] at hX
  rw [choice_elder rfl rfl (by simp only; omega)] at hY
  dsimp only at hX hY
  have HX := Lib.hid hX
  have HY := Lib.hid hY
  have GZ : Hid (∀ (l : List UInt8) (pp nn : Nat), Turned (hdB d2).data.toList pp nn 32 l → nn < 4294967296 → nn ≠ 0 → pp ≤ 480 → ∀ W, Calls Try.prog 18 #[.string (hdB d1), .string ⟨l.toArray⟩] W fun e w' => ∃ v : Value, e = .returned (.tuple #[.agg #[.int .u64 (d1.gen : Int), .int .i64 (d1.sectors : Int), .int .i64 (d1.size : Int), v], .int .i64 0, .int .i64 0]) ∧ Fresh (spT v (castS d1.spans)) W w') := fun l pp nn ht hn h0 hp W => by
    have h := Choose_all (hdB d1) ⟨l.toArray⟩ W
    unfold ChoseAt at h
    rw [tA, took_no (turned_none o2 ht hn h0 hp), choice_first rfl (takeErr_ne _)] at h
    exact h
  have HM1 : Hid ((castS d1.spans).length = n1 ∧ n1 ≤ 1000000) := ⟨k1, by omega⟩
  have HM2 : Hid ((castS d2.spans).length = n2 ∧ n2 ≤ 1000000) := ⟨k2, by omega⟩
  have HJ1 := Lib.hid (fun W (hW : Below w.heap.size w W) => SpansAt.below j1 hW)
  have HJ2 := Lib.hid (fun W (hW : Below w.heap.size w W) => SpansAt.below j2 hW)
  have hcv := fun W => run_bytes_of_string (P := Try.prog) W 9 48 5 (hdB d2) Try.underlying9 Try.underlying48 Try.underlying5
  have hz := hdB_size d2 o2
  have HLO : Hid ((hdB d2).data.toList.length = 64) := by
    have := size_list (hdB d2)
    rw [hz] at this
    exact this.symm
  have r1 : (d1.gen : Int) < d2.gen := by omega
  have r6 : decide ((d1.gen : Int) < d2.gen) = true := decide_eq_true r1
  have r2 : ¬ (d2.gen : Int) < d1.gen := by omega
  have r3 : decide ((d2.gen : Int) < d1.gen) = false := decide_eq_false r2
  have r4 : ((d1.gen : Int) != d2.gen) = true := by simp; omega
  have r5 : ((d1.gen : Int) == d2.gen) = false := by simp; omega
  have r7 : decide (d2.gen < d1.gen) = false := by simp; omega
  have r8 : (d1.gen != d2.gen) = true := by simp; omega
  have r9 : (d1.gen == d2.gen) = false := by simp; omega
  have r10 : decide (d1.gen < d2.gen) = true := by simp; omega
  have HRR : Hid (_ ∧ _ ∧ _ ∧ _ ∧ _ ∧ _ ∧ _ ∧ _) := ⟨r3, r4, r5, r6, r7, r8, r9, r10⟩
  clear r3 r4 r5 r6 r7 r8 r9 r10
  clear C HP HQ h1 h2 k1 k2 j1 j2 tA tB hX hY o1 o2 hr
  obtain ⟨G1, S1, Z1, N1⟩ := d1
  obtain ⟨G2, S2, Z2, N2⟩ := d2
  dsimp only at *
  generalize hdB ⟨G1, S1, Z1, N1⟩ = P at *
  generalize hdB ⟨G2, S2, Z2, N2⟩ = Q at *
  go_enter Try.func6, Try.ntmps6
  go_wp2_with fail
  refine (shown_any _).mono ?_
  rintro e w1 ⟨rfl, hb1⟩
  replace HC := Lib.hid (HC.out.below hb1)
  have p0 := (HC.out.at 0 rfl (j := 0) rfl).1
  have p1 := (HC.out.at 0 rfl (j := 1) rfl).1
  have p2 := (HC.out.at 0 rfl (j := 2) rfl).1
  have p3 := (HC.out.at 0 rfl (j := 3) rfl).1
  have q3 := (HC.out.at 1 rfl (j := 3) rfl).1
  clear hb1
  go_wp2_with fail
  refine (GP.out _ HC.out.bel).mono ?_
  rintro e w2 ⟨rfl, hb2⟩
  replace HC := Lib.hid (HC.out.below hb2)
  clear p0 p1 p2 p3 q3 hb2
  have q0 := (HC.out.at 1 rfl (j := 0) rfl).1
  have q1 := (HC.out.at 1 rfl (j := 1) rfl).1
  have q2 := (HC.out.at 1 rfl (j := 2) rfl).1
  have q3 := (HC.out.at 1 rfl (j := 3) rfl).1
  go_wp2_with fail
  refine (GQ.out _ HC.out.bel).mono ?_
  rintro e w3 ⟨rfl, hb3⟩
  replace HC := Lib.hid (HC.out.below hb3)
  clear q0 q1 q2 q3 hb3
  go_wp2_with fail
  refine (HX.out _).mono ?_
  rintro e w4 ⟨v4, rfl, hf4⟩
  obtain ⟨ax, qx, hv4, hs4, hb4⟩ := row_of2 hf4
  rw [HM2.out.1] at hv4
  subst hv4
  replace HC := Lib.hid ((HC.out.below hb4).block #[.int .u64 (G2 : Int), .int .i64 (S2 : Int), .int .i64 (Z2 : Int), .slice ax n2 qx] 25)
  have HSX := Lib.hid (SpansAt.below hs4 ((Below.refl _ w4).alloc (Nat.le_refl _) (.cells #[.int .u64 (G2 : Int), .int .i64 (S2 : Int), .int .i64 (Z2 : Int), .slice ax n2 qx] 25)))
  clear hf4 hs4 hb4
  go_wp2_with fail
  refine (HY.out _).mono ?_
  rintro e w5 ⟨v5, rfl, hf5⟩
  obtain ⟨ay, qy, hv5, hs5, hb5⟩ := row_of2 hf5
  rw [HM2.out.1] at hv5
  subst hv5
  replace HC := Lib.hid ((HC.out.below hb5).block #[.int .u64 (G2 : Int), .int .i64 (S2 : Int), .int .i64 (Z2 : Int), .slice ay n2 qy] 25)
  have hal := (Below.refl w5.heap.size w5).alloc (Nat.le_refl _) (.cells #[.int .u64 (G2 : Int), .int .i64 (S2 : Int), .int .i64 (Z2 : Int), .slice ay n2 qy] 25)
  replace HSX := Lib.hid (SpansAt.below (SpansAt.below HSX.out hb5) hal)
  have HSY := Lib.hid (SpansAt.below hs5 hal)
  clear hf5 hs5 hb5 hal HX HY GP GQ
  have p0 := (HC.out.at 0 rfl (j := 0) rfl).1
  have p1 := (HC.out.at 0 rfl (j := 1) rfl).1
  have p2 := (HC.out.at 0 rfl (j := 2) rfl).1
  have p3 := (HC.out.at 0 rfl (j := 3) rfl).1
  have q0 := (HC.out.at 1 rfl (j := 0) rfl).1
  have q1 := (HC.out.at 1 rfl (j := 1) rfl).1
  have q2 := (HC.out.at 1 rfl (j := 2) rfl).1
  have q3 := (HC.out.at 1 rfl (j := 3) rfl).1
  go_upto_region 11 with fail
  clear p0 p1 p2 p3 q0 q1 q2 q3
  obtain ⟨r3, r4, r5, r6, r7, r8, r9, r10⟩ := HRR.out
  have HCW := HC.out.bel
  have p0 := fun p => after_cell (HC.out.at 0 rfl (j := 0) rfl).1 (HC.out.lt 0 rfl) p
  have p1 := fun p => after_cell (HC.out.at 0 rfl (j := 1) rfl).1 (HC.out.lt 0 rfl) p
  have p2 := fun p => after_cell (HC.out.at 0 rfl (j := 2) rfl).1 (HC.out.lt 0 rfl) p
  have p3 := fun p => after_cell (HC.out.at 0 rfl (j := 3) rfl).1 (HC.out.lt 0 rfl) p
  have q0 := fun p => after_cell (HC.out.at 1 rfl (j := 0) rfl).1 (HC.out.lt 1 rfl) p
  have q1 := fun p => after_cell (HC.out.at 1 rfl (j := 1) rfl).1 (HC.out.lt 1 rfl) p
  have q2 := fun p => after_cell (HC.out.at 1 rfl (j := 2) rfl).1 (HC.out.lt 1 rfl) p
  have q3 := fun p => after_cell (HC.out.at 1 rfl (j := 3) rfl).1 (HC.out.lt 1 rfl) p
  have x0 := fun p => after_cell (HC.out.at 2 rfl (j := 0) rfl).1 (HC.out.lt 2 rfl) p
  have x1 := fun p => after_cell (HC.out.at 2 rfl (j := 1) rfl).1 (HC.out.lt 2 rfl) p
  have x2 := fun p => after_cell (HC.out.at 2 rfl (j := 2) rfl).1 (HC.out.lt 2 rfl) p
  have x3 := fun p => after_cell (HC.out.at 2 rfl (j := 3) rfl).1 (HC.out.lt 2 rfl) p
  have y0 := fun p => after_cell (HC.out.at 3 rfl (j := 0) rfl).1 (HC.out.lt 3 rfl) p
  have y1 := fun p => after_cell (HC.out.at 3 rfl (j := 1) rfl).1 (HC.out.lt 3 rfl) p
  have y2 := fun p => after_cell (HC.out.at 3 rfl (j := 2) rfl).1 (HC.out.lt 3 rfl) p
  have y3 := fun p => after_cell (HC.out.at 3 rfl (j := 3) rfl).1 (HC.out.lt 3 rfl) p
  have FA := Lib.hid (fun p => after_of (W := (w5.alloc (.cells #[.int .u64 (G2 : Int), .int .i64 (S2 : Int), .int .i64 (Z2 : Int), .slice ay n2 qy] 25))) (fun W _ => as_any (G2 : Int) S2 Z2 a2 n2 c2 W) p)
  have FS := Lib.hid (fun p => after_of (W := (w5.alloc (.cells #[.int .u64 (G2 : Int), .int .i64 (S2 : Int), .int .i64 (Z2 : Int), .slice ay n2 qy] 25))) (fun W hW => by
    have C := sameH_any (G2 : Int) G2 S2 S2 Z2 Z2 (castS N2) (castS N2) ax a2 n2 n2 qx c2 W (SpansAt.below HSX.out hW) (HJ2.out W (below_trans HCW hW)) HM2.out.1 HM2.out.1 HM2.out.2
    rw [decide_eq_true ⟨rfl, rfl, rfl, rfl⟩] at C
    exact C) p)
  have FB := Lib.hid (fun p => after_of (W := (w5.alloc (.cells #[.int .u64 (G2 : Int), .int .i64 (S2 : Int), .int .i64 (Z2 : Int), .slice ay n2 qy] 25))) (fun W _ => as_any (G2 : Int) S2 Z2 ax n2 qx W) p)
  have FT := Lib.hid (fun p => after_of (W := (w5.alloc (.cells #[.int .u64 (G2 : Int), .int .i64 (S2 : Int), .int .i64 (Z2 : Int), .slice ay n2 qy] 25))) (fun W hW => by
    have C := sameH_any (G2 : Int) G2 S2 S2 Z2 Z2 (castS N2) (castS N2) ay ax n2 n2 qy qx W (SpansAt.below HSY.out hW) (SpansAt.below HSX.out hW) HM2.out.1 HM2.out.1 HM2.out.2
    rw [decide_eq_true ⟨rfl, rfl, rfl, rfl⟩] at C
    exact C) p)
  refine wp_region_after (by kernel_rfl) (by kernel_rfl) ?_
  repeat (go_big_quiet_step (first | with_reducible exact FA.out _ | with_reducible exact FS.out _ | with_reducible exact FB.out _ | with_reducible exact FT.out _))
  refine wpQuiet_nil ?_
  intro _ hw
  obtain ⟨p', rfl⟩ := hw
  replace HC := Lib.hid (HC.out.below p'.is)
  generalize p'.to = wp at *
  clear p0 p1 p2 p3 q0 q1 q2 q3 x0 x1 x2 x3 y0 y1 y2 y3 FA FS HSX HSY HCW FB FT
  go_upto_region 13 with fail
  by_cases e1 : p < 0
  · have HB := Lib.hid HC.out.bel
    go_wp2_with fail
    go_ret
    exact ⟨rfl, HB.out⟩
  by_cases e2 : 480 < p
  · have HB := Lib.hid HC.out.bel
    go_wp2_with fail
    go_ret
    exact ⟨rfl, HB.out⟩
  by_cases e3 : q = 0
  · subst e3
    have HB := Lib.hid HC.out.bel
    go_wp2_with fail
    go_ret
    exact ⟨rfl, HB.out⟩
  obtain ⟨pn, rfl⟩ : ∃ m : Nat, p = (m : Int) := ⟨p.toNat, by omega⟩
  obtain ⟨nn, rfl⟩ : ∃ m : Nat, q = (m : Int) := ⟨q.toNat, by omega⟩
  have e4 : ((nn : Int) == 0) = false := by simpa using e3
  have hpn : pn ≤ 480 := by omega
  have HN : Hid (nn < 4294967296 ∧ nn ≠ 0) := ⟨by omega, by omega⟩
  have hq64 : (Q.size : Int) = 64 := by omega
  clear hq2 hq0 r1 r2 r3 r4 r5 r6 r7 r8 r9 r10 HRR
  go_wp2_with fail
  clear hcv
  have hst := BRow.start wp Q (grownCap wp 64 0 5)
  have hbs := ((Below.refl _ wp).alloc (Nat.le_refl _) (.cells (bytesRow Q (grownCap wp 64 0 5)) 5 ((bytesRow Q (grownCap wp 64 0 5)).size, (bytesRow Q (grownCap wp 64 0 5)).size + 1))).drew
  generalize grownCap wp 64 0 5 = cap at *
  go_loopw [22] (fun i wr => ∃ k : Nat, i = .int .i64 k ∧ k ≤ 32 ∧ Hid (Now wp wp.heap.size Q.data.toList pn nn k wr)) (fun i _ => (32 - intOf i).toNat)
  case atStart => exact ⟨0, rfl, by omega, ⟨_, Turned.start _ _ _, hst, hbs, by simp⟩⟩
  case round =>
    obtain ⟨k, rfl, hk, hT⟩ := hrel
    clear hst hbs
    by_cases hlt : k < 32
    · have ha : bits BinOp.and IntKind.u32 ((nn : Int) / 2 ^ k) 1 = ((nn / 2 ^ k % 2 : Nat) : Int) := by
        have h := and1 (nn / 2 ^ k) (Nat.lt_of_le_of_lt (Nat.div_le_self _ _) HN.out.1)
        rw [Int.natCast_ediv, Int.natCast_pow] at h
        exact h
      rcases Nat.mod_two_eq_zero_or_one (nn / 2 ^ k) with hb | hb <;> rw [hb] at ha
      · have HB := Lib.hid hb
        clear hb
        go_wp2
        go_roundw
        case rel => exact ⟨k + 1, by go_num, by omega, hT.out.pass HB.out⟩
        case measure => simp [intOf]; omega
      · obtain ⟨j, hj⟩ : ∃ j : Nat, j = pn + k := ⟨_, rfl⟩
        obtain ⟨c, v, hcell, hfz, hxv, hnow⟩ := hT.out.turn (Nat.le_refl _) hb j hj (by rw [HLO.out]; omega)
        have hq : (j : Int) / 8 < 64 := by omega
        have hq2 : j / 8 < 64 := by omega
        have h1 : IntKind.i64.wrap ((pn : Int) + k) = (j : Int) := by rw [hj]; exact IntWalk.i64_in _ (by omega)
        have HNOW := Lib.hid hnow
        clear hj hb hnow hT
        go_wp2
        go_region
        go_wp2
        go_roundw
        case rel => exact ⟨k + 1, by go_num, by omega, HNOW⟩
        case measure => simp [intOf]; omega
    · obtain rfl : k = 32 := by omega
      obtain ⟨l, hbk, hba, hTu⟩ := hT.out.over (cap := cap) (N := 64) HLO.out.symm
      have HZ := Lib.hid (GZ.out l pn nn hTu HN.out.1 HN.out.2 hpn)
      replace HC := Lib.hid (HC.out.below hba)
      generalize ByteArray.mk l.toArray = R at hbk HZ
      clear hTu hT hba GZ
      go_wp2_with fail
      refine (HZ.out _).mono ?_
      rintro e w7 ⟨v7, rfl, hf7⟩
      obtain ⟨az, qz, hv7, hs7, hb7⟩ := row_of2 hf7
      rw [HM1.out.1] at hv7
      subst hv7
      replace HC := Lib.hid ((HC.out.below hb7).block #[.int .u64 (G1 : Int), .int .i64 (S1 : Int), .int .i64 (Z1 : Int), .slice az n1 qz] 25)
      have HSZ := Lib.hid (SpansAt.below hs7 ((Below.refl _ w7).alloc (Nat.le_refl _) (.cells #[.int .u64 (G1 : Int), .int .i64 (S1 : Int), .int .i64 (Z1 : Int), .slice az n1 qz] 25)))
      have HCW := HC.out.bel
      clear hf7 hs7 hb7 hbk HZ
      have p0 := fun p => after_cell (HC.out.at 0 rfl (j := 0) rfl).1 (HC.out.lt 0 rfl) p
      have p1 := fun p => after_cell (HC.out.at 0 rfl (j := 1) rfl).1 (HC.out.lt 0 rfl) p
      have p2 := fun p => after_cell (HC.out.at 0 rfl (j := 2) rfl).1 (HC.out.lt 0 rfl) p
      have p3 := fun p => after_cell (HC.out.at 0 rfl (j := 3) rfl).1 (HC.out.lt 0 rfl) p
      have x0 := fun p => after_cell (HC.out.at 4 rfl (j := 0) rfl).1 (HC.out.lt 4 rfl) p
      have x1 := fun p => after_cell (HC.out.at 4 rfl (j := 1) rfl).1 (HC.out.lt 4 rfl) p
      have x2 := fun p => after_cell (HC.out.at 4 rfl (j := 2) rfl).1 (HC.out.lt 4 rfl) p
      have x3 := fun p => after_cell (HC.out.at 4 rfl (j := 3) rfl).1 (HC.out.lt 4 rfl) p
      have FA := Lib.hid (fun p => after_of (W := (w7.alloc (.cells #[.int .u64 (G1 : Int), .int .i64 (S1 : Int), .int .i64 (Z1 : Int), .slice az n1 qz] 25))) (fun W _ => as_any (G1 : Int) S1 Z1 a1 n1 c1 W) p)
      have FS := Lib.hid (fun p => after_of (W := (w7.alloc (.cells #[.int .u64 (G1 : Int), .int .i64 (S1 : Int), .int .i64 (Z1 : Int), .slice az n1 qz] 25))) (fun W hW => by
        have C := sameH_any (G1 : Int) G1 S1 S1 Z1 Z1 (castS N1) (castS N1) az a1 n1 n1 qz c1 W (SpansAt.below HSZ.out hW) (HJ1.out W (below_trans HCW hW)) HM1.out.1 HM1.out.1 HM1.out.2
        rw [decide_eq_true ⟨rfl, rfl, rfl, rfl⟩] at C
        exact C) p)
      go_wp2_with fail
      refine wp_region_after (by kernel_rfl) (by kernel_rfl) ?_
      repeat (go_big_quiet_step (first | with_reducible exact FA.out _ | with_reducible exact FS.out _))
      refine wpQuiet_nil ?_
      intro _ hw
      obtain ⟨p', rfl⟩ := hw
      have HB := Lib.hid (below_trans HC.out.bel p'.is)
      generalize p'.to = wz at *
      go_wp2
      go_ret
      exact ⟨rfl, HB.out⟩

set_option maxRecDepth 100000 in
set_option maxHeartbeats 32000000 in
theorem fineSame (d1 d2 : Hd) (o1 : d1.Ok) (o2 : d2.Ok) (a1 : Option Addr) (n1 c1 : Nat) (a2 : Option Addr) (n2 c2 : Nat) (p q : Int) (hp2 : p ≤ 9223372036854775807) (hq0 : 0 ≤ q) (hq2 : q < 4294967296) (w : World) (h1 : n1 ≤ 20) (h2 : n2 ≤ 20) (k1 : (castS d1.spans).length = n1) (k2 : (castS d2.spans).length = n2) (j1 : SpansAt w a1 (castS d1.spans)) (j2 : SpansAt w a2 (castS d2.spans))
    (HP : ∀ W, Below w.heap.size w W → Calls Try.prog 10 #[.agg #[.int .u64 (d1.gen : Int), .int .i64 (d1.sectors : Int), .int .i64 (d1.size : Int), .slice a1 n1 c1]] W fun e w' => e = .returned (.tuple #[.string (hdB d1), .int .i64 0]) ∧ Below W.heap.size W w')
    (HQ : ∀ W, Below w.heap.size w W → Calls Try.prog 10 #[.agg #[.int .u64 (d2.gen : Int), .int .i64 (d2.sectors : Int), .int .i64 (d2.size : Int), .slice a2 n2 c2]] W fun e w' => e = .returned (.tuple #[.string (hdB d2), .int .i64 0]) ∧ Below W.heap.size W w')
    (hr : d1.gen = d2.gen) :
    Calls Try.prog 6 #[.agg #[.int .u64 (d1.gen : Int), .int .i64 (d1.sectors : Int), .int .i64 (d1.size : Int), .slice a1 n1 c1], .agg #[.int .u64 (d2.gen : Int), .int .i64 (d2.sectors : Int), .int .i64 (d2.size : Int), .slice a2 n2 c2], .int .i64 p, .int .u32 q] w fun e w' => e = .returned (.bool true) ∧ Below w.heap.size w w' := by
  have C := ((Crew.start w).block #[.int .u64 (d1.gen : Int), .int .i64 (d1.sectors : Int), .int .i64 (d1.size : Int), .slice a1 n1 c1] 25).block #[.int .u64 (d2.gen : Int), .int .i64 (d2.sectors : Int), .int .i64 (d2.size : Int), .slice a2 n2 c2] 25
  rw [World.size_alloc] at C
  have HC := Lib.hid C
  have hl1 : ¬ (20 : Int) < n1 := by omega
  have hl2 : ¬ (20 : Int) < n2 := by omega
  have GP := Lib.hid HP
  have GQ := Lib.hid HQ
  have tA := took_yes o1
  have tB := took_yes o2
  have hX := Choose_all (hdB d1) (hdB d2)
  have hY := Choose_all (hdB d2) (hdB d1)
  unfold ChoseAt at hX hY
  rw [tA, tB] at hX hY
  rw [choice_elder rfl rfl (by simp only; omega)] at hX
  rw [choice_elder rfl rfl (by simp only; omega)] at hY
  dsimp only at hX hY
  have HX := Lib.hid hX
  have HY := Lib.hid hY
  have GZ : Hid (∀ (l : List UInt8) (pp nn : Nat), Turned (hdB d2).data.toList pp nn 32 l → nn < 4294967296 → nn ≠ 0 → pp ≤ 480 → ∀ W, Calls Try.prog 18 #[.string (hdB d1), .string ⟨l.toArray⟩] W fun e w' => ∃ v : Value, e = .returned (.tuple #[.agg #[.int .u64 (d1.gen : Int), .int .i64 (d1.sectors : Int), .int .i64 (d1.size : Int), v], .int .i64 0, .int .i64 0]) ∧ Fresh (spT v (castS d1.spans)) W w') := fun l pp nn ht hn h0 hp W => by
    have h := Choose_all (hdB d1) ⟨l.toArray⟩ W
    unfold ChoseAt at h
    rw [tA, took_no (turned_none o2 ht hn h0 hp), choice_first rfl (takeErr_ne _)] at h
    exact h
  have HM1 : Hid ((castS d1.spans).length = n1 ∧ n1 ≤ 1000000) := ⟨k1, by omega⟩
  have HM2 : Hid ((castS d2.spans).length = n2 ∧ n2 ≤ 1000000) := ⟨k2, by omega⟩
  have HJ1 := Lib.hid (fun W (hW : Below w.heap.size w W) => SpansAt.below j1 hW)
  have HJ2 := Lib.hid (fun W (hW : Below w.heap.size w W) => SpansAt.below j2 hW)
  have hcv := fun W => run_bytes_of_string (P := Try.prog) W 9 48 5 (hdB d2) Try.underlying9 Try.underlying48 Try.underlying5
  have hz := hdB_size d2 o2
  have HLO : Hid ((hdB d2).data.toList.length = 64) := by
    have := size_list (hdB d2)
    rw [hz] at this
    exact this.symm
  have r1 : ¬ (d1.gen : Int) < d2.gen := by omega
  have r6 : decide ((d1.gen : Int) < d2.gen) = false := decide_eq_false r1
  have r2 : ¬ (d2.gen : Int) < d1.gen := by omega
  have r3 : decide ((d2.gen : Int) < d1.gen) = false := decide_eq_false r2
  have r4 : ((d1.gen : Int) != d2.gen) = false := by simp; omega
  have r5 : ((d1.gen : Int) == d2.gen) = true := by simp; omega
  have r7 : decide (d2.gen < d1.gen) = false := by simp; omega
  have r8 : (d1.gen != d2.gen) = false := by simp; omega
  have r9 : (d1.gen == d2.gen) = true := by simp; omega
  have r10 : decide (d1.gen < d2.gen) = false := by simp; omega
  have HRR : Hid (_ ∧ _ ∧ _ ∧ _ ∧ _ ∧ _ ∧ _ ∧ _) := ⟨r3, r4, r5, r6, r7, r8, r9, r10⟩
  clear r3 r4 r5 r6 r7 r8 r9 r10
  clear C HP HQ h1 h2 k1 k2 j1 j2 tA tB hX hY o1 o2 hr
  obtain ⟨G1, S1, Z1, N1⟩ := d1
  obtain ⟨G2, S2, Z2, N2⟩ := d2
  dsimp only at *
  generalize hdB ⟨G1, S1, Z1, N1⟩ = P at *
  generalize hdB ⟨G2, S2, Z2, N2⟩ = Q at *
  go_enter Try.func6, Try.ntmps6
  go_wp2_with fail
  refine (shown_any _).mono ?_
  rintro e w1 ⟨rfl, hb1⟩
  replace HC := Lib.hid (HC.out.below hb1)
  have p0 := (HC.out.at 0 rfl (j := 0) rfl).1
  have p1 := (HC.out.at 0 rfl (j := 1) rfl).1
  have p2 := (HC.out.at 0 rfl (j := 2) rfl).1
  have p3 := (HC.out.at 0 rfl (j := 3) rfl).1
  have q3 := (HC.out.at 1 rfl (j := 3) rfl).1
  clear hb1
  go_wp2_with fail
  refine (GP.out _ HC.out.bel).mono ?_
  rintro e w2 ⟨rfl, hb2⟩
  replace HC := Lib.hid (HC.out.below hb2)
  clear p0 p1 p2 p3 q3 hb2
  have q0 := (HC.out.at 1 rfl (j := 0) rfl).1
  have q1 := (HC.out.at 1 rfl (j := 1) rfl).1
  have q2 := (HC.out.at 1 rfl (j := 2) rfl).1
  have q3 := (HC.out.at 1 rfl (j := 3) rfl).1
  go_wp2_with fail
  refine (GQ.out _ HC.out.bel).mono ?_
  rintro e w3 ⟨rfl, hb3⟩
  replace HC := Lib.hid (HC.out.below hb3)
  clear q0 q1 q2 q3 hb3
  go_wp2_with fail
  refine (HX.out _).mono ?_
  rintro e w4 ⟨v4, rfl, hf4⟩
  obtain ⟨ax, qx, hv4, hs4, hb4⟩ := row_of2 hf4
  rw [HM1.out.1] at hv4
  subst hv4
  replace HC := Lib.hid ((HC.out.below hb4).block #[.int .u64 (G1 : Int), .int .i64 (S1 : Int), .int .i64 (Z1 : Int), .slice ax n1 qx] 25)
  have HSX := Lib.hid (SpansAt.below hs4 ((Below.refl _ w4).alloc (Nat.le_refl _) (.cells #[.int .u64 (G1 : Int), .int .i64 (S1 : Int), .int .i64 (Z1 : Int), .slice ax n1 qx] 25)))
  clear hf4 hs4 hb4
  go_wp2_with fail
  refine (HY.out _).mono ?_
  rintro e w5 ⟨v5, rfl, hf5⟩
  obtain ⟨ay, qy, hv5, hs5, hb5⟩ := row_of2 hf5
  rw [HM2.out.1] at hv5
  subst hv5
  replace HC := Lib.hid ((HC.out.below hb5).block #[.int .u64 (G2 : Int), .int .i64 (S2 : Int), .int .i64 (Z2 : Int), .slice ay n2 qy] 25)
  have hal := (Below.refl w5.heap.size w5).alloc (Nat.le_refl _) (.cells #[.int .u64 (G2 : Int), .int .i64 (S2 : Int), .int .i64 (Z2 : Int), .slice ay n2 qy] 25)
  replace HSX := Lib.hid (SpansAt.below (SpansAt.below HSX.out hb5) hal)
  have HSY := Lib.hid (SpansAt.below hs5 hal)
  clear hf5 hs5 hb5 hal HX HY GP GQ
  have p0 := (HC.out.at 0 rfl (j := 0) rfl).1
  have p1 := (HC.out.at 0 rfl (j := 1) rfl).1
  have p2 := (HC.out.at 0 rfl (j := 2) rfl).1
  have p3 := (HC.out.at 0 rfl (j := 3) rfl).1
  have q0 := (HC.out.at 1 rfl (j := 0) rfl).1
  have q1 := (HC.out.at 1 rfl (j := 1) rfl).1
  have q2 := (HC.out.at 1 rfl (j := 2) rfl).1
  have q3 := (HC.out.at 1 rfl (j := 3) rfl).1
  go_upto_region 11 with fail
  clear p0 p1 p2 p3 q0 q1 q2 q3
  obtain ⟨r3, r4, r5, r6, r7, r8, r9, r10⟩ := HRR.out
  rw [r10]
  have HCW := HC.out.bel
  have p0 := fun p => after_cell (HC.out.at 0 rfl (j := 0) rfl).1 (HC.out.lt 0 rfl) p
  have p1 := fun p => after_cell (HC.out.at 0 rfl (j := 1) rfl).1 (HC.out.lt 0 rfl) p
  have p2 := fun p => after_cell (HC.out.at 0 rfl (j := 2) rfl).1 (HC.out.lt 0 rfl) p
  have p3 := fun p => after_cell (HC.out.at 0 rfl (j := 3) rfl).1 (HC.out.lt 0 rfl) p
  have q0 := fun p => after_cell (HC.out.at 1 rfl (j := 0) rfl).1 (HC.out.lt 1 rfl) p
  have q1 := fun p => after_cell (HC.out.at 1 rfl (j := 1) rfl).1 (HC.out.lt 1 rfl) p
  have q2 := fun p => after_cell (HC.out.at 1 rfl (j := 2) rfl).1 (HC.out.lt 1 rfl) p
  have q3 := fun p => after_cell (HC.out.at 1 rfl (j := 3) rfl).1 (HC.out.lt 1 rfl) p
  have x0 := fun p => after_cell (HC.out.at 2 rfl (j := 0) rfl).1 (HC.out.lt 2 rfl) p
  have x1 := fun p => after_cell (HC.out.at 2 rfl (j := 1) rfl).1 (HC.out.lt 2 rfl) p
  have x2 := fun p => after_cell (HC.out.at 2 rfl (j := 2) rfl).1 (HC.out.lt 2 rfl) p
  have x3 := fun p => after_cell (HC.out.at 2 rfl (j := 3) rfl).1 (HC.out.lt 2 rfl) p
  have y0 := fun p => after_cell (HC.out.at 3 rfl (j := 0) rfl).1 (HC.out.lt 3 rfl) p
  have y1 := fun p => after_cell (HC.out.at 3 rfl (j := 1) rfl).1 (HC.out.lt 3 rfl) p
  have y2 := fun p => after_cell (HC.out.at 3 rfl (j := 2) rfl).1 (HC.out.lt 3 rfl) p
  have y3 := fun p => after_cell (HC.out.at 3 rfl (j := 3) rfl).1 (HC.out.lt 3 rfl) p
  have FA := Lib.hid (fun p => after_of (W := (w5.alloc (.cells #[.int .u64 (G2 : Int), .int .i64 (S2 : Int), .int .i64 (Z2 : Int), .slice ay n2 qy] 25))) (fun W _ => as_any (G1 : Int) S1 Z1 a1 n1 c1 W) p)
  have FS := Lib.hid (fun p => after_of (W := (w5.alloc (.cells #[.int .u64 (G2 : Int), .int .i64 (S2 : Int), .int .i64 (Z2 : Int), .slice ay n2 qy] 25))) (fun W hW => by
    have C := sameH_any (G1 : Int) G1 S1 S1 Z1 Z1 (castS N1) (castS N1) ax a1 n1 n1 qx c1 W (SpansAt.below HSX.out hW) (HJ1.out W (below_trans HCW hW)) HM1.out.1 HM1.out.1 HM1.out.2
    rw [decide_eq_true ⟨rfl, rfl, rfl, rfl⟩] at C
    exact C) p)
  refine wp_region_after (by kernel_rfl) (by kernel_rfl) ?_
  repeat (go_big_quiet_step (first | with_reducible exact FA.out _ | with_reducible exact FS.out _))
  refine wpQuiet_nil ?_
  intro _ hw
  obtain ⟨p', rfl⟩ := hw
  replace HC := Lib.hid (HC.out.below p'.is)
  generalize p'.to = wp at *
  clear p0 p1 p2 p3 q0 q1 q2 q3 x0 x1 x2 x3 y0 y1 y2 y3 FA FS HSX HSY HCW
  go_upto_region 13 with fail
  by_cases e1 : p < 0
  · have HB := Lib.hid HC.out.bel
    go_wp2_with fail
    go_ret
    exact ⟨rfl, HB.out⟩
  by_cases e2 : 480 < p
  · have HB := Lib.hid HC.out.bel
    go_wp2_with fail
    go_ret
    exact ⟨rfl, HB.out⟩
  by_cases e3 : q = 0
  · subst e3
    have HB := Lib.hid HC.out.bel
    go_wp2_with fail
    go_ret
    exact ⟨rfl, HB.out⟩
  obtain ⟨pn, rfl⟩ : ∃ m : Nat, p = (m : Int) := ⟨p.toNat, by omega⟩
  obtain ⟨nn, rfl⟩ : ∃ m : Nat, q = (m : Int) := ⟨q.toNat, by omega⟩
  have e4 : ((nn : Int) == 0) = false := by simpa using e3
  have hpn : pn ≤ 480 := by omega
  have HN : Hid (nn < 4294967296 ∧ nn ≠ 0) := ⟨by omega, by omega⟩
  have hq64 : (Q.size : Int) = 64 := by omega
  clear hq2 hq0 r1 r2 r3 r4 r5 r6 r7 r8 r9 r10 HRR
  go_wp2_with fail
  clear hcv
  have hst := BRow.start wp Q (grownCap wp 64 0 5)
  have hbs := ((Below.refl _ wp).alloc (Nat.le_refl _) (.cells (bytesRow Q (grownCap wp 64 0 5)) 5 ((bytesRow Q (grownCap wp 64 0 5)).size, (bytesRow Q (grownCap wp 64 0 5)).size + 1))).drew
  generalize grownCap wp 64 0 5 = cap at *
  go_loopw [22] (fun i wr => ∃ k : Nat, i = .int .i64 k ∧ k ≤ 32 ∧ Hid (Now wp wp.heap.size Q.data.toList pn nn k wr)) (fun i _ => (32 - intOf i).toNat)
  case atStart => exact ⟨0, rfl, by omega, ⟨_, Turned.start _ _ _, hst, hbs, by simp⟩⟩
  case round =>
    obtain ⟨k, rfl, hk, hT⟩ := hrel
    clear hst hbs
    by_cases hlt : k < 32
    · have ha : bits BinOp.and IntKind.u32 ((nn : Int) / 2 ^ k) 1 = ((nn / 2 ^ k % 2 : Nat) : Int) := by
        have h := and1 (nn / 2 ^ k) (Nat.lt_of_le_of_lt (Nat.div_le_self _ _) HN.out.1)
        rw [Int.natCast_ediv, Int.natCast_pow] at h
        exact h
      rcases Nat.mod_two_eq_zero_or_one (nn / 2 ^ k) with hb | hb <;> rw [hb] at ha
      · have HB := Lib.hid hb
        clear hb
        go_wp2
        go_roundw
        case rel => exact ⟨k + 1, by go_num, by omega, hT.out.pass HB.out⟩
        case measure => simp [intOf]; omega
      · obtain ⟨j, hj⟩ : ∃ j : Nat, j = pn + k := ⟨_, rfl⟩
        obtain ⟨c, v, hcell, hfz, hxv, hnow⟩ := hT.out.turn (Nat.le_refl _) hb j hj (by rw [HLO.out]; omega)
        have hq : (j : Int) / 8 < 64 := by omega
        have hq2 : j / 8 < 64 := by omega
        have h1 : IntKind.i64.wrap ((pn : Int) + k) = (j : Int) := by rw [hj]; exact IntWalk.i64_in _ (by omega)
        have HNOW := Lib.hid hnow
        clear hj hb hnow hT
        go_wp2
        go_region
        go_wp2
        go_roundw
        case rel => exact ⟨k + 1, by go_num, by omega, HNOW⟩
        case measure => simp [intOf]; omega
    · obtain rfl : k = 32 := by omega
      obtain ⟨l, hbk, hba, hTu⟩ := hT.out.over (cap := cap) (N := 64) HLO.out.symm
      have HZ := Lib.hid (GZ.out l pn nn hTu HN.out.1 HN.out.2 hpn)
      replace HC := Lib.hid (HC.out.below hba)
      generalize ByteArray.mk l.toArray = R at hbk HZ
      clear hTu hT hba GZ
      go_wp2_with fail
      refine (HZ.out _).mono ?_
      rintro e w7 ⟨v7, rfl, hf7⟩
      obtain ⟨az, qz, hv7, hs7, hb7⟩ := row_of2 hf7
      rw [HM1.out.1] at hv7
      subst hv7
      replace HC := Lib.hid ((HC.out.below hb7).block #[.int .u64 (G1 : Int), .int .i64 (S1 : Int), .int .i64 (Z1 : Int), .slice az n1 qz] 25)
      have HSZ := Lib.hid (SpansAt.below hs7 ((Below.refl _ w7).alloc (Nat.le_refl _) (.cells #[.int .u64 (G1 : Int), .int .i64 (S1 : Int), .int .i64 (Z1 : Int), .slice az n1 qz] 25)))
      have HCW := HC.out.bel
      clear hf7 hs7 hb7 hbk HZ
      have p0 := fun p => after_cell (HC.out.at 0 rfl (j := 0) rfl).1 (HC.out.lt 0 rfl) p
      have p1 := fun p => after_cell (HC.out.at 0 rfl (j := 1) rfl).1 (HC.out.lt 0 rfl) p
      have p2 := fun p => after_cell (HC.out.at 0 rfl (j := 2) rfl).1 (HC.out.lt 0 rfl) p
      have p3 := fun p => after_cell (HC.out.at 0 rfl (j := 3) rfl).1 (HC.out.lt 0 rfl) p
      have x0 := fun p => after_cell (HC.out.at 4 rfl (j := 0) rfl).1 (HC.out.lt 4 rfl) p
      have x1 := fun p => after_cell (HC.out.at 4 rfl (j := 1) rfl).1 (HC.out.lt 4 rfl) p
      have x2 := fun p => after_cell (HC.out.at 4 rfl (j := 2) rfl).1 (HC.out.lt 4 rfl) p
      have x3 := fun p => after_cell (HC.out.at 4 rfl (j := 3) rfl).1 (HC.out.lt 4 rfl) p
      have FA := Lib.hid (fun p => after_of (W := (w7.alloc (.cells #[.int .u64 (G1 : Int), .int .i64 (S1 : Int), .int .i64 (Z1 : Int), .slice az n1 qz] 25))) (fun W _ => as_any (G1 : Int) S1 Z1 a1 n1 c1 W) p)
      have FS := Lib.hid (fun p => after_of (W := (w7.alloc (.cells #[.int .u64 (G1 : Int), .int .i64 (S1 : Int), .int .i64 (Z1 : Int), .slice az n1 qz] 25))) (fun W hW => by
        have C := sameH_any (G1 : Int) G1 S1 S1 Z1 Z1 (castS N1) (castS N1) az a1 n1 n1 qz c1 W (SpansAt.below HSZ.out hW) (HJ1.out W (below_trans HCW hW)) HM1.out.1 HM1.out.1 HM1.out.2
        rw [decide_eq_true ⟨rfl, rfl, rfl, rfl⟩] at C
        exact C) p)
      go_wp2_with fail
      refine wp_region_after (by kernel_rfl) (by kernel_rfl) ?_
      repeat (go_big_quiet_step (first | with_reducible exact FA.out _ | with_reducible exact FS.out _))
      refine wpQuiet_nil ?_
      intro _ hw
      obtain ⟨p', rfl⟩ := hw
      have HB := Lib.hid (below_trans HC.out.bel p'.is)
      generalize p'.to = wz at *
      go_wp2
      go_ret
      exact ⟨rfl, HB.out⟩

set_option maxRecDepth 100000 in
set_option maxHeartbeats 32000000 in
theorem fineElder (d1 d2 : Hd) (o1 : d1.Ok) (o2 : d2.Ok) (a1 : Option Addr) (n1 c1 : Nat) (a2 : Option Addr) (n2 c2 : Nat) (p q : Int) (hp2 : p ≤ 9223372036854775807) (hq0 : 0 ≤ q) (hq2 : q < 4294967296) (w : World) (h1 : n1 ≤ 20) (h2 : n2 ≤ 20) (k1 : (castS d1.spans).length = n1) (k2 : (castS d2.spans).length = n2) (j1 : SpansAt w a1 (castS d1.spans)) (j2 : SpansAt w a2 (castS d2.spans))
    (HP : ∀ W, Below w.heap.size w W → Calls Try.prog 10 #[.agg #[.int .u64 (d1.gen : Int), .int .i64 (d1.sectors : Int), .int .i64 (d1.size : Int), .slice a1 n1 c1]] W fun e w' => e = .returned (.tuple #[.string (hdB d1), .int .i64 0]) ∧ Below W.heap.size W w')
    (HQ : ∀ W, Below w.heap.size w W → Calls Try.prog 10 #[.agg #[.int .u64 (d2.gen : Int), .int .i64 (d2.sectors : Int), .int .i64 (d2.size : Int), .slice a2 n2 c2]] W fun e w' => e = .returned (.tuple #[.string (hdB d2), .int .i64 0]) ∧ Below W.heap.size W w')
    (hr : d2.gen < d1.gen) :
    Calls Try.prog 6 #[.agg #[.int .u64 (d1.gen : Int), .int .i64 (d1.sectors : Int), .int .i64 (d1.size : Int), .slice a1 n1 c1], .agg #[.int .u64 (d2.gen : Int), .int .i64 (d2.sectors : Int), .int .i64 (d2.size : Int), .slice a2 n2 c2], .int .i64 p, .int .u32 q] w fun e w' => e = .returned (.bool true) ∧ Below w.heap.size w w' := by
  have C := ((Crew.start w).block #[.int .u64 (d1.gen : Int), .int .i64 (d1.sectors : Int), .int .i64 (d1.size : Int), .slice a1 n1 c1] 25).block #[.int .u64 (d2.gen : Int), .int .i64 (d2.sectors : Int), .int .i64 (d2.size : Int), .slice a2 n2 c2] 25
  rw [World.size_alloc] at C
  have HC := Lib.hid C
  have hl1 : ¬ (20 : Int) < n1 := by omega
  have hl2 : ¬ (20 : Int) < n2 := by omega
  have GP := Lib.hid HP
  have GQ := Lib.hid HQ
  have tA := took_yes o1
  have tB := took_yes o2
  have hX := Choose_all (hdB d1) (hdB d2)
  have hY := Choose_all (hdB d2) (hdB d1)
  unfold ChoseAt at hX hY
  rw [tA, tB] at hX hY
  rw [choice_elder rfl rfl (by simp only; omega)] at hX
  rw [choice_later rfl rfl hr] at hY
  dsimp only at hX hY
  have HX := Lib.hid hX
  have HY := Lib.hid hY
  have GZ : Hid (∀ (l : List UInt8) (pp nn : Nat), Turned (hdB d2).data.toList pp nn 32 l → nn < 4294967296 → nn ≠ 0 → pp ≤ 480 → ∀ W, Calls Try.prog 18 #[.string (hdB d1), .string ⟨l.toArray⟩] W fun e w' => ∃ v : Value, e = .returned (.tuple #[.agg #[.int .u64 (d1.gen : Int), .int .i64 (d1.sectors : Int), .int .i64 (d1.size : Int), v], .int .i64 0, .int .i64 0]) ∧ Fresh (spT v (castS d1.spans)) W w') := fun l pp nn ht hn h0 hp W => by
    have h := Choose_all (hdB d1) ⟨l.toArray⟩ W
    unfold ChoseAt at h
    rw [tA, took_no (turned_none o2 ht hn h0 hp), choice_first rfl (takeErr_ne _)] at h
    exact h
  have HM1 : Hid ((castS d1.spans).length = n1 ∧ n1 ≤ 1000000) := ⟨k1, by omega⟩
  have HM2 : Hid ((castS d2.spans).length = n2 ∧ n2 ≤ 1000000) := ⟨k2, by omega⟩
  have HJ1 := Lib.hid (fun W (hW : Below w.heap.size w W) => SpansAt.below j1 hW)
  have HJ2 := Lib.hid (fun W (hW : Below w.heap.size w W) => SpansAt.below j2 hW)
  have hcv := fun W => run_bytes_of_string (P := Try.prog) W 9 48 5 (hdB d2) Try.underlying9 Try.underlying48 Try.underlying5
  have hz := hdB_size d2 o2
  have HLO : Hid ((hdB d2).data.toList.length = 64) := by
    have := size_list (hdB d2)
    rw [hz] at this
    exact this.symm
  have r1 : ¬ (d1.gen : Int) < d2.gen := by omega
  have r6 : decide ((d1.gen : Int) < d2.gen) = false := decide_eq_false r1
  have r2 : (d2.gen : Int) < d1.gen := by omega
  have r3 : decide ((d2.gen : Int) < d1.gen) = true := decide_eq_true r2
  have r4 : ((d1.gen : Int) != d2.gen) = true := by simp; omega
  have r5 : ((d1.gen : Int) == d2.gen) = false := by simp; omega
  have r7 : decide (d2.gen < d1.gen) = true := by simp; omega
  have r8 : (d1.gen != d2.gen) = true := by simp; omega
  have r9 : (d1.gen == d2.gen) = false := by simp; omega
  have r10 : decide (d1.gen < d2.gen) = false := by simp; omega
  have HRR : Hid (_ ∧ _ ∧ _ ∧ _ ∧ _ ∧ _ ∧ _ ∧ _) := ⟨r3, r4, r5, r6, r7, r8, r9, r10⟩
  clear r3 r4 r5 r6 r7 r8 r9 r10
  clear C HP HQ h1 h2 k1 k2 j1 j2 tA tB hX hY o1 o2 hr
  obtain ⟨G1, S1, Z1, N1⟩ := d1
  obtain ⟨G2, S2, Z2, N2⟩ := d2
  dsimp only at *
  generalize hdB ⟨G1, S1, Z1, N1⟩ = P at *
  generalize hdB ⟨G2, S2, Z2, N2⟩ = Q at *
  go_enter Try.func6, Try.ntmps6
  go_wp2_with fail
  refine (shown_any _).mono ?_
  rintro e w1 ⟨rfl, hb1⟩
  replace HC := Lib.hid (HC.out.below hb1)
  have p0 := (HC.out.at 0 rfl (j := 0) rfl).1
  have p1 := (HC.out.at 0 rfl (j := 1) rfl).1
  have p2 := (HC.out.at 0 rfl (j := 2) rfl).1
  have p3 := (HC.out.at 0 rfl (j := 3) rfl).1
  have q3 := (HC.out.at 1 rfl (j := 3) rfl).1
  clear hb1
  go_wp2_with fail
  refine (GP.out _ HC.out.bel).mono ?_
  rintro e w2 ⟨rfl, hb2⟩
  replace HC := Lib.hid (HC.out.below hb2)
  clear p0 p1 p2 p3 q3 hb2
  have q0 := (HC.out.at 1 rfl (j := 0) rfl).1
  have q1 := (HC.out.at 1 rfl (j := 1) rfl).1
  have q2 := (HC.out.at 1 rfl (j := 2) rfl).1
  have q3 := (HC.out.at 1 rfl (j := 3) rfl).1
  go_wp2_with fail
  refine (GQ.out _ HC.out.bel).mono ?_
  rintro e w3 ⟨rfl, hb3⟩
  replace HC := Lib.hid (HC.out.below hb3)
  clear q0 q1 q2 q3 hb3
  go_wp2_with fail
  refine (HX.out _).mono ?_
  rintro e w4 ⟨v4, rfl, hf4⟩
  obtain ⟨ax, qx, hv4, hs4, hb4⟩ := row_of2 hf4
  rw [HM1.out.1] at hv4
  subst hv4
  replace HC := Lib.hid ((HC.out.below hb4).block #[.int .u64 (G1 : Int), .int .i64 (S1 : Int), .int .i64 (Z1 : Int), .slice ax n1 qx] 25)
  have HSX := Lib.hid (SpansAt.below hs4 ((Below.refl _ w4).alloc (Nat.le_refl _) (.cells #[.int .u64 (G1 : Int), .int .i64 (S1 : Int), .int .i64 (Z1 : Int), .slice ax n1 qx] 25)))
  clear hf4 hs4 hb4
  go_wp2_with fail
  refine (HY.out _).mono ?_
  rintro e w5 ⟨v5, rfl, hf5⟩
  obtain ⟨ay, qy, hv5, hs5, hb5⟩ := row_of2 hf5
  rw [HM1.out.1] at hv5
  subst hv5
  replace HC := Lib.hid ((HC.out.below hb5).block #[.int .u64 (G1 : Int), .int .i64 (S1 : Int), .int .i64 (Z1 : Int), .slice ay n1 qy] 25)
  have hal := (Below.refl w5.heap.size w5).alloc (Nat.le_refl _) (.cells #[.int .u64 (G1 : Int), .int .i64 (S1 : Int), .int .i64 (Z1 : Int), .slice ay n1 qy] 25)
  replace HSX := Lib.hid (SpansAt.below (SpansAt.below HSX.out hb5) hal)
  have HSY := Lib.hid (SpansAt.below hs5 hal)
  clear hf5 hs5 hb5 hal HX HY GP GQ
  have p0 := (HC.out.at 0 rfl (j := 0) rfl).1
  have p1 := (HC.out.at 0 rfl (j := 1) rfl).1
  have p2 := (HC.out.at 0 rfl (j := 2) rfl).1
  have p3 := (HC.out.at 0 rfl (j := 3) rfl).1
  have q0 := (HC.out.at 1 rfl (j := 0) rfl).1
  have q1 := (HC.out.at 1 rfl (j := 1) rfl).1
  have q2 := (HC.out.at 1 rfl (j := 2) rfl).1
  have q3 := (HC.out.at 1 rfl (j := 3) rfl).1
  go_upto_region 11 with fail
  clear p0 p1 p2 p3 q0 q1 q2 q3
  obtain ⟨r3, r4, r5, r6, r7, r8, r9, r10⟩ := HRR.out
  rw [r10]
  have HCW := HC.out.bel
  have p0 := fun p => after_cell (HC.out.at 0 rfl (j := 0) rfl).1 (HC.out.lt 0 rfl) p
  have p1 := fun p => after_cell (HC.out.at 0 rfl (j := 1) rfl).1 (HC.out.lt 0 rfl) p
  have p2 := fun p => after_cell (HC.out.at 0 rfl (j := 2) rfl).1 (HC.out.lt 0 rfl) p
  have p3 := fun p => after_cell (HC.out.at 0 rfl (j := 3) rfl).1 (HC.out.lt 0 rfl) p
  have q0 := fun p => after_cell (HC.out.at 1 rfl (j := 0) rfl).1 (HC.out.lt 1 rfl) p
  have q1 := fun p => after_cell (HC.out.at 1 rfl (j := 1) rfl).1 (HC.out.lt 1 rfl) p
  have q2 := fun p => after_cell (HC.out.at 1 rfl (j := 2) rfl).1 (HC.out.lt 1 rfl) p
  have q3 := fun p => after_cell (HC.out.at 1 rfl (j := 3) rfl).1 (HC.out.lt 1 rfl) p
  have x0 := fun p => after_cell (HC.out.at 2 rfl (j := 0) rfl).1 (HC.out.lt 2 rfl) p
  have x1 := fun p => after_cell (HC.out.at 2 rfl (j := 1) rfl).1 (HC.out.lt 2 rfl) p
  have x2 := fun p => after_cell (HC.out.at 2 rfl (j := 2) rfl).1 (HC.out.lt 2 rfl) p
  have x3 := fun p => after_cell (HC.out.at 2 rfl (j := 3) rfl).1 (HC.out.lt 2 rfl) p
  have y0 := fun p => after_cell (HC.out.at 3 rfl (j := 0) rfl).1 (HC.out.lt 3 rfl) p
  have y1 := fun p => after_cell (HC.out.at 3 rfl (j := 1) rfl).1 (HC.out.lt 3 rfl) p
  have y2 := fun p => after_cell (HC.out.at 3 rfl (j := 2) rfl).1 (HC.out.lt 3 rfl) p
  have y3 := fun p => after_cell (HC.out.at 3 rfl (j := 3) rfl).1 (HC.out.lt 3 rfl) p
  have FA := Lib.hid (fun p => after_of (W := (w5.alloc (.cells #[.int .u64 (G1 : Int), .int .i64 (S1 : Int), .int .i64 (Z1 : Int), .slice ay n1 qy] 25))) (fun W _ => as_any (G1 : Int) S1 Z1 a1 n1 c1 W) p)
  have FS := Lib.hid (fun p => after_of (W := (w5.alloc (.cells #[.int .u64 (G1 : Int), .int .i64 (S1 : Int), .int .i64 (Z1 : Int), .slice ay n1 qy] 25))) (fun W hW => by
    have C := sameH_any (G1 : Int) G1 S1 S1 Z1 Z1 (castS N1) (castS N1) ax a1 n1 n1 qx c1 W (SpansAt.below HSX.out hW) (HJ1.out W (below_trans HCW hW)) HM1.out.1 HM1.out.1 HM1.out.2
    rw [decide_eq_true ⟨rfl, rfl, rfl, rfl⟩] at C
    exact C) p)
  have FB := Lib.hid (fun p => after_of (W := (w5.alloc (.cells #[.int .u64 (G1 : Int), .int .i64 (S1 : Int), .int .i64 (Z1 : Int), .slice ay n1 qy] 25))) (fun W _ => as_any (G1 : Int) S1 Z1 ax n1 qx W) p)
  have FT := Lib.hid (fun p => after_of (W := (w5.alloc (.cells #[.int .u64 (G1 : Int), .int .i64 (S1 : Int), .int .i64 (Z1 : Int), .slice ay n1 qy] 25))) (fun W hW => by
    have C := sameH_any (G1 : Int) G1 S1 S1 Z1 Z1 (castS N1) (castS N1) ay ax n1 n1 qy qx W (SpansAt.below HSY.out hW) (SpansAt.below HSX.out hW) HM1.out.1 HM1.out.1 HM1.out.2
    rw [decide_eq_true ⟨rfl, rfl, rfl, rfl⟩] at C
    exact C) p)
  refine wp_region_after (by kernel_rfl) (by kernel_rfl) ?_
  repeat (go_big_quiet_step (first | with_reducible exact FA.out _ | with_reducible exact FS.out _ | with_reducible exact FB.out _ | with_reducible exact FT.out _))
  refine wpQuiet_nil ?_
  intro _ hw
  obtain ⟨p', rfl⟩ := hw
  replace HC := Lib.hid (HC.out.below p'.is)
  generalize p'.to = wp at *
  clear p0 p1 p2 p3 q0 q1 q2 q3 x0 x1 x2 x3 y0 y1 y2 y3 FA FS HSX HSY HCW FB FT
  go_upto_region 13 with fail
  by_cases e1 : p < 0
  · have HB := Lib.hid HC.out.bel
    go_wp2_with fail
    go_ret
    exact ⟨rfl, HB.out⟩
  by_cases e2 : 480 < p
  · have HB := Lib.hid HC.out.bel
    go_wp2_with fail
    go_ret
    exact ⟨rfl, HB.out⟩
  by_cases e3 : q = 0
  · subst e3
    have HB := Lib.hid HC.out.bel
    go_wp2_with fail
    go_ret
    exact ⟨rfl, HB.out⟩
  obtain ⟨pn, rfl⟩ : ∃ m : Nat, p = (m : Int) := ⟨p.toNat, by omega⟩
  obtain ⟨nn, rfl⟩ : ∃ m : Nat, q = (m : Int) := ⟨q.toNat, by omega⟩
  have e4 : ((nn : Int) == 0) = false := by simpa using e3
  have hpn : pn ≤ 480 := by omega
  have HN : Hid (nn < 4294967296 ∧ nn ≠ 0) := ⟨by omega, by omega⟩
  have hq64 : (Q.size : Int) = 64 := by omega
  clear hq2 hq0 r1 r2 r3 r4 r5 r6 r7 r8 r9 r10 HRR
  go_wp2_with fail
  clear hcv
  have hst := BRow.start wp Q (grownCap wp 64 0 5)
  have hbs := ((Below.refl _ wp).alloc (Nat.le_refl _) (.cells (bytesRow Q (grownCap wp 64 0 5)) 5 ((bytesRow Q (grownCap wp 64 0 5)).size, (bytesRow Q (grownCap wp 64 0 5)).size + 1))).drew
  generalize grownCap wp 64 0 5 = cap at *
  go_loopw [22] (fun i wr => ∃ k : Nat, i = .int .i64 k ∧ k ≤ 32 ∧ Hid (Now wp wp.heap.size Q.data.toList pn nn k wr)) (fun i _ => (32 - intOf i).toNat)
  case atStart => exact ⟨0, rfl, by omega, ⟨_, Turned.start _ _ _, hst, hbs, by simp⟩⟩
  case round =>
    obtain ⟨k, rfl, hk, hT⟩ := hrel
    clear hst hbs
    by_cases hlt : k < 32
    · have ha : bits BinOp.and IntKind.u32 ((nn : Int) / 2 ^ k) 1 = ((nn / 2 ^ k % 2 : Nat) : Int) := by
        have h := and1 (nn / 2 ^ k) (Nat.lt_of_le_of_lt (Nat.div_le_self _ _) HN.out.1)
        rw [Int.natCast_ediv, Int.natCast_pow] at h
        exact h
      rcases Nat.mod_two_eq_zero_or_one (nn / 2 ^ k) with hb | hb <;> rw [hb] at ha
      · have HB := Lib.hid hb
        clear hb
        go_wp2
        go_roundw
        case rel => exact ⟨k + 1, by go_num, by omega, hT.out.pass HB.out⟩
        case measure => simp [intOf]; omega
      · obtain ⟨j, hj⟩ : ∃ j : Nat, j = pn + k := ⟨_, rfl⟩
        obtain ⟨c, v, hcell, hfz, hxv, hnow⟩ := hT.out.turn (Nat.le_refl _) hb j hj (by rw [HLO.out]; omega)
        have hq : (j : Int) / 8 < 64 := by omega
        have hq2 : j / 8 < 64 := by omega
        have h1 : IntKind.i64.wrap ((pn : Int) + k) = (j : Int) := by rw [hj]; exact IntWalk.i64_in _ (by omega)
        have HNOW := Lib.hid hnow
        clear hj hb hnow hT
        go_wp2
        go_region
        go_wp2
        go_roundw
        case rel => exact ⟨k + 1, by go_num, by omega, HNOW⟩
        case measure => simp [intOf]; omega
    · obtain rfl : k = 32 := by omega
      obtain ⟨l, hbk, hba, hTu⟩ := hT.out.over (cap := cap) (N := 64) HLO.out.symm
      have HZ := Lib.hid (GZ.out l pn nn hTu HN.out.1 HN.out.2 hpn)
      replace HC := Lib.hid (HC.out.below hba)
      generalize ByteArray.mk l.toArray = R at hbk HZ
      clear hTu hT hba GZ
      go_wp2_with fail
      refine (HZ.out _).mono ?_
      rintro e w7 ⟨v7, rfl, hf7⟩
      obtain ⟨az, qz, hv7, hs7, hb7⟩ := row_of2 hf7
      rw [HM1.out.1] at hv7
      subst hv7
      replace HC := Lib.hid ((HC.out.below hb7).block #[.int .u64 (G1 : Int), .int .i64 (S1 : Int), .int .i64 (Z1 : Int), .slice az n1 qz] 25)
      have HSZ := Lib.hid (SpansAt.below hs7 ((Below.refl _ w7).alloc (Nat.le_refl _) (.cells #[.int .u64 (G1 : Int), .int .i64 (S1 : Int), .int .i64 (Z1 : Int), .slice az n1 qz] 25)))
      have HCW := HC.out.bel
      clear hf7 hs7 hb7 hbk HZ
      have p0 := fun p => after_cell (HC.out.at 0 rfl (j := 0) rfl).1 (HC.out.lt 0 rfl) p
      have p1 := fun p => after_cell (HC.out.at 0 rfl (j := 1) rfl).1 (HC.out.lt 0 rfl) p
      have p2 := fun p => after_cell (HC.out.at 0 rfl (j := 2) rfl).1 (HC.out.lt 0 rfl) p
      have p3 := fun p => after_cell (HC.out.at 0 rfl (j := 3) rfl).1 (HC.out.lt 0 rfl) p
      have x0 := fun p => after_cell (HC.out.at 4 rfl (j := 0) rfl).1 (HC.out.lt 4 rfl) p
      have x1 := fun p => after_cell (HC.out.at 4 rfl (j := 1) rfl).1 (HC.out.lt 4 rfl) p
      have x2 := fun p => after_cell (HC.out.at 4 rfl (j := 2) rfl).1 (HC.out.lt 4 rfl) p
      have x3 := fun p => after_cell (HC.out.at 4 rfl (j := 3) rfl).1 (HC.out.lt 4 rfl) p
      have FA := Lib.hid (fun p => after_of (W := (w7.alloc (.cells #[.int .u64 (G1 : Int), .int .i64 (S1 : Int), .int .i64 (Z1 : Int), .slice az n1 qz] 25))) (fun W _ => as_any (G1 : Int) S1 Z1 a1 n1 c1 W) p)
      have FS := Lib.hid (fun p => after_of (W := (w7.alloc (.cells #[.int .u64 (G1 : Int), .int .i64 (S1 : Int), .int .i64 (Z1 : Int), .slice az n1 qz] 25))) (fun W hW => by
        have C := sameH_any (G1 : Int) G1 S1 S1 Z1 Z1 (castS N1) (castS N1) az a1 n1 n1 qz c1 W (SpansAt.below HSZ.out hW) (HJ1.out W (below_trans HCW hW)) HM1.out.1 HM1.out.1 HM1.out.2
        rw [decide_eq_true ⟨rfl, rfl, rfl, rfl⟩] at C
        exact C) p)
      go_wp2_with fail
      refine wp_region_after (by kernel_rfl) (by kernel_rfl) ?_
      repeat (go_big_quiet_step (first | with_reducible exact FA.out _ | with_reducible exact FS.out _))
      refine wpQuiet_nil ?_
      intro _ hw
      obtain ⟨p', rfl⟩ := hw
      have HB := Lib.hid (below_trans HC.out.bel p'.is)
      generalize p'.to = wz at *
      go_wp2
      go_ret
      exact ⟨rfl, HB.out⟩

theorem walk (g1 : Nat) (s1 z1 : Int) (a1 : Option Addr) (n1 c1 : Nat) (L1 : List SpI) (g2 : Nat) (s2 z2 : Int) (a2 : Option Addr) (n2 c2 : Nat) (L2 : List SpI) (p : Int) (hp : (Lit.int .i64 p).wf = true) (q : Int) (hq : (Lit.int .u32 q).wf = true) (w : World) (k1 : IsHead w g1 s1 z1 a1 n1 L1) (k2 : IsHead w g2 s2 z2 a2 n2 L2) :
    Calls Try.prog 6 #[.agg #[.int .u64 (g1 : Int), .int .i64 s1, .int .i64 z1, .slice a1 n1 c1], .agg #[.int .u64 (g2 : Int), .int .i64 s2, .int .i64 z2, .slice a2 n2 c2], .int .i64 p, .int .u32 q] w fun e w' => e = .returned (.bool true) ∧ Below w.heap.size w w' := by
  by_cases h1 : n1 ≤ 20
  · by_cases h2 : n2 ≤ 20
    · obtain ⟨P, x, r, HP, _, _, _, hP⟩ := k1.puts c1
      obtain ⟨Q, y, r2, HQ, _, _, _, hQ⟩ := k2.puts c2
      rcases hP with ⟨rfl, rfl, d1, o1, i1, rfl⟩ | ⟨rfl, rfl, _, _⟩
      · rcases hQ with ⟨rfl, rfl, d2, o2, i2, rfl⟩ | ⟨rfl, rfl, _, _⟩
        · obtain ⟨rfl, rfl, rfl, rfl⟩ := i1
          obtain ⟨rfl, rfl, rfl, rfl⟩ := i2
          obtain ⟨nq, rfl, hnq⟩ := nat_of32 hq
          have hp2 := (in64_of hp).2
          by_cases e1 : d1.gen < d2.gen
          · exact fineLater d1 d2 o1 o2 a1 n1 c1 a2 n2 c2 p nq hp2 (by omega) (by omega) w h1 h2 k1.row.1 k2.row.1 k1.row.2.1 k2.row.2.1 HP HQ e1
          · by_cases e2 : d2.gen < d1.gen
            · exact fineElder d1 d2 o1 o2 a1 n1 c1 a2 n2 c2 p nq hp2 (by omega) (by omega) w h1 h2 k1.row.1 k2.row.1 k1.row.2.1 k2.row.2.1 HP HQ e2
            · exact fineSame d1 d2 o1 o2 a1 n1 c1 a2 n2 c2 p nq hp2 (by omega) (by omega) w h1 h2 k1.row.1 k2.row.1 k1.row.2.1 k2.row.2.1 HP HQ (by omega)
        · exact not g1 s1 z1 a1 n1 c1 g2 s2 z2 a2 n2 c2 p q w h1 h2 _ _ _ _ HP HQ (.inr ⟨rfl, rfl⟩)
      · exact not g1 s1 z1 a1 n1 c1 g2 s2 z2 a2 n2 c2 p q w h1 h2 _ _ _ _ HP HQ (.inl rfl)
    · exact long g1 s1 z1 a1 n1 c1 g2 s2 z2 a2 n2 c2 p q w (.inr ⟨h1, by omega⟩)
  · exact long g1 s1 z1 a1 n1 c1 g2 s2 z2 a2 n2 c2 p q w (.inl (by omega))

set_option maxRecDepth 100000 in
theorem lifted (os : Os) (started : os.Started) (H : Type) (enc : TypeId × Value → H) :
    ReturnsInHanded {} Try.checked os 6 .any (Rows.headEitherSpec.pre6 enc Try.prog Try.f6 Rows.headEitherRow.domain false) (Rows.headEitherSpec.post enc Try.prog Try.f6 false true false false) := by
  refine returnsInHanded_of_change (C := Try.checked) own started (by kernel_rfl) Try.func6
    (ChangeSpec.witness6 (enc := enc) (C := Try.checked) false ⟨#[], #[.agg #[.int .u64 0, .int .i64 0, .int .i64 0, .slice none 0 0], .agg #[.int .u64 0, .int .i64 0, .int .i64 0, .slice none 0 0], .int .i64 0, .int .u32 0], []⟩ 8 (by kernel_rfl) (by kernel_rfl) (by kernel_rfl) (by kernel_rfl)) ?_
  intro W base args ds gs before hval0 hW _ _
  have hval : ∀ (j : Nat) t v, Try.f6.params[j]? = some t → args[j]? = some v → Value.okWide Try.prog W .any base t v := hval0
  have hW' := hW
  obtain ⟨p, q, hA0, hV, rfl, hfz, hnd⟩ := hW
  have hA : DataW.TrodAll enc Try.prog W 0 (fun _ => true) true Try.f6.params.toList args.toList ds p := hA0
  rw [Try.params6] at hA hval
  obtain ⟨v0, vs0, d0, ds0, p0, q0, hargs, rfl, rfl, h0, r0⟩ := trodAll_cons hA
  obtain ⟨v1, vs1, d1, ds1, p1, q1, rfl, rfl, rfl, h1, r1⟩ := trodAll_cons r0
  obtain ⟨v2, vs2, d2, ds2, p2, q2, rfl, rfl, rfl, h2, r2⟩ := trodAll_cons r1
  obtain ⟨v3, vs3, d3, ds3, p3, q3, rfl, rfl, rfl, h3, r3⟩ := trodAll_cons r2
  obtain ⟨rfl, rfl, rfl⟩ := trodAll_nil r3
  obtain rfl : args = #[v0, v1, v2, v3] := by cases args; simp_all
  obtain ⟨rfl, rfl⟩ := trodVars_none hV
  have k0 := h0
  have lt0 : ∀ x ∈ p0, x.block < W.heap.size := by obtain ⟨m, hm⟩ := k0; exact DataW.trod_lt m _ _ _ hm
  obtain ⟨g0, s0, z0, a0, len0, cap0, l0, rfl, w0⟩ := open_head (hval 0 25 v0 rfl rfl) h0
  have k1 := h1
  have lt1 : ∀ x ∈ p1, x.block < W.heap.size := by obtain ⟨m, hm⟩ := k1; exact DataW.trod_lt m _ _ _ hm
  obtain ⟨g1, s1, z1, a1, len1, cap1, l1, rfl, w1⟩ := open_head (hval 1 25 v1 rfl rfl) h1
  obtain ⟨a2, rfl, rfl, rfl, w2⟩ := open_int Try.underlying3 (hval 2 3 v2 rfl rfl) h2
  obtain ⟨a3, rfl, rfl, rfl, w3⟩ := open_int Try.underlying47 (hval 3 47 v3 rfl rfl) h3
  clear hA0 hval0
  refine (walk g0 s0 z0 a0 len0 cap0 l0 g1 s1 z1 a1 len1 cap1 l1 a2 w2 a3 w3 W w0 w1).mono fun e W' ⟨he, bel⟩ => ?_
  subst he
  exact ⟨_, rfl, _, _, _, [], _, [], hW', trodAll_mk1 (shut_bool Try.underlying4 _), (trodAll_cons_mk (Below.trod laidOut (by kernel_rfl) (of_decide_eq_true (by kernel_rfl)) k0 bel lt0) (trodAll_cons_mk (Below.trod laidOut (by kernel_rfl) (of_decide_eq_true (by kernel_rfl)) k1 bel lt1) (trodAll_cons_mk (shut_int Try.underlying3 w2) (trodAll_cons_mk (shut_int Try.underlying47 w3) trodAll_mk0)))), rfl, bel.frame _, fun h => by cases h⟩

theorem holds : Rows.HeadEitherSaid :=
  OpenClaim.holds_of_wide 6 Try.f6 rfl rfl rfl rfl rfl rfl rfl ⟨rfl, rfl, rfl, rfl, rfl⟩ rfl rfl rfl rfl rfl (by kernel_rfl) Try.func6 (by kernel_rfl)
    (of_decide_eq_true (by kernel_rfl)) (by unfold Func.isWrapper; first | (rw [if_pos (by decide +kernel)]; kernel_rfl) | (rw [if_neg (by decide +kernel)]; exact ⟨rfl, rfl⟩))
    (fun os started H enc _ => lifted os started H enc)

end Go.Proofs.Ytnknojkihjpjkaa.headEither
