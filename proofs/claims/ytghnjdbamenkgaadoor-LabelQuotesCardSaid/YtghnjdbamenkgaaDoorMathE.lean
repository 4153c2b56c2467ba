/-
  Plain facts on reading quoted words back: what each quoted rune looks like, and the bytes that it stands for. No program is named here. Conditions: none.
-/
import Derived.Test.YtghnjdbamenkgaaDoorMathU
import Derived.Test.YtghnjdbamenkgaaDoorMathP
namespace Go.Rc1

/-- The bytes of a rune. -/
def enc (n : Nat) : List UInt8 :=
  if n < 128 then [UInt8.ofNat n]
  else if n < 2048 then [UInt8.ofNat (192 + n / 64), UInt8.ofNat (128 + n % 64)]
  else if n < 65536 then [UInt8.ofNat (224 + n / 4096), UInt8.ofNat (128 + n / 64 % 64), UInt8.ofNat (128 + n % 64)]
  else [UInt8.ofNat (240 + n / 262144), UInt8.ofNat (128 + n / 4096 % 64), UInt8.ofNat (128 + n / 64 % 64), UInt8.ofNat (128 + n % 64)]

def scalar (n : Nat) : Prop := n < 55296 ∨ (57344 ≤ n ∧ n ≤ 1114111)

theorem valid_of (n : Nat) (h : scalar n) : Utf8.valid (n : Int) = true := by
  unfold scalar at h
  simp only [Utf8.valid, Bool.or_eq_true, Bool.and_eq_true, decide_eq_true_eq]
  omega

theorem encode_eq (n : Nat) (h : scalar n) : (Utf8.encode (n : Int)).data.toList = enc n := by
  have hv := valid_of n h
  unfold enc
  by_cases h1 : n < 128
  · rw [if_pos h1]
    simp only [Utf8.encode, hv, if_true, Int.toNat_natCast, h1]
  · rw [if_neg h1]
    by_cases h2 : n < 2048
    · rw [if_pos h2]
      simp only [Utf8.encode, hv, if_true, Int.toNat_natCast, h1, h2, if_false]
    · rw [if_neg h2]
      by_cases h3 : n < 65536
      · rw [if_pos h3]
        simp only [Utf8.encode, hv, if_true, Int.toNat_natCast, h1, h2, h3, if_false]
      · rw [if_neg h3]
        simp only [Utf8.encode, hv, if_true, Int.toNat_natCast, h1, h2, h3, if_false]

theorem byte_of (l : List UInt8) (i : Nat) (h : i < l.length) (n : Nat) (hn : n = bt l i) : UInt8.ofNat n = l[i] := by
  rw [hn, bt_get l i h]; simp

theorem take1 (l : List UInt8) (h : 0 < l.length) : l.take 1 = [l[0]] := by
  match l, h with
  | a :: t, _ => simp
theorem take2 (l : List UInt8) (h : 1 < l.length) : l.take 2 = [l[0], l[1]] := by
  match l, h with
  | a :: b :: t, _ => simp
theorem take3 (l : List UInt8) (h : 2 < l.length) : l.take 3 = [l[0], l[1], l[2]] := by
  match l, h with
  | a :: b :: c :: t, _ => simp
theorem take4 (l : List UInt8) (h : 3 < l.length) : l.take 4 = [l[0], l[1], l[2], l[3]] := by
  match l, h with
  | a :: b :: c :: d :: t, _ => simp

/-- A rune's bytes are those at the head of the list. -/
theorem enc_take (l : List UInt8) (hne : l ≠ []) (hw : wr l = false) : l.take (dec l).2 = enc (dec l).1 ∧ scalar (dec l).1 := by
  have hw' : dec l ≠ (65533, 1) := by simpa [wr] using hw
  have hl : 0 < l.length := List.length_pos_iff.2 hne
  have b0 := bt_lt l 0; have b1 := bt_lt l 1; have b2 := bt_lt l 2; have b3 := bt_lt l 3
  rcases dec_cases l with ⟨q, e⟩ | ⟨q, e⟩ | ⟨q, e⟩ | ⟨q, e⟩ | ⟨h0, h2, h3, h4, e⟩
  · rw [e]
    dsimp only
    refine ⟨?_, by unfold scalar; omega⟩
    rw [take1 l hl]; unfold enc; rw [if_pos q, byte_of l 0 hl _ rfl]
  · rw [e]
    dsimp only
    have q1 := q
    unfold Q2 at q1
    have hl1 : 1 < l.length := q1.2.1
    refine ⟨?_, by unfold scalar; omega⟩
    rw [take2 l hl1]; unfold enc
    rw [if_neg (by omega), if_pos (by omega), byte_of l 0 hl _ (by omega), byte_of l 1 hl1 _ (by omega)]
  · rw [e]
    dsimp only
    have q1 := q
    unfold Q3 at q1
    have hl2 : 2 < l.length := q1.2.1
    refine ⟨?_, by unfold scalar; omega⟩
    rw [take3 l hl2]; unfold enc
    rw [if_neg (by omega), if_neg (by omega), if_pos (by omega), byte_of l 0 hl _ (by omega), byte_of l 1 (by omega) _ (by omega), byte_of l 2 hl2 _ (by omega)]
  · rw [e]
    dsimp only
    have q1 := q
    unfold Q4 at q1
    have hl3 : 3 < l.length := q1.2.1
    refine ⟨?_, by unfold scalar; omega⟩
    rw [take4 l hl3]; unfold enc
    rw [if_neg (by omega), if_neg (by omega), if_neg (by omega), byte_of l 0 hl _ (by omega), byte_of l 1 (by omega) _ (by omega), byte_of l 2 (by omega) _ (by omega), byte_of l 3 hl3 _ (by omega)]
  · exact absurd e hw'

/-- The four looks of a quoted rune or wrong byte, and the bytes that it stands for. -/
theorem qc_cases (u : List UInt8) (hne : u ≠ []) :
    (∃ b : UInt8, plB b = true ∧ qc u = [b] ∧ u.take (dec u).2 = [b]) ∨
    (qc u = [92, 92] ∧ u.take (dec u).2 = [92]) ∨
    (∃ n, 128 ≤ n ∧ n < 256 ∧ qc u = [92, 33] ++ hexL n ∧ u.take (dec u).2 = [UInt8.ofNat n]) ∨
    (∃ r, scalar r ∧ qc u = [92, 123] ++ hexL r ++ [125] ∧ u.take (dec u).2 = enc r) := by
  have hl : 0 < u.length := List.length_pos_iff.2 hne
  cases hw : wr u with
  | true =>
    have h := wr_high u hw
    have := bt_lt u 0
    refine .inr (.inr (.inl ⟨bt u 0, h.1, by omega, ?_, ?_⟩))
    · unfold qc; rw [hw]; rfl
    · rw [h.2.1, take1 u hl, byte_of u 0 hl _ rfl]
  | false =>
    have he := enc_take u hne hw
    have hq : qc u = qr (dec u).1 := by unfold qc; rw [hw]; rfl
    generalize (dec u).1 = r at he hq
    unfold qr at hq
    by_cases h92 : r = 92
    · rw [if_pos h92] at hq
      refine .inr (.inl ⟨hq, ?_⟩)
      rw [he.1, h92]; rfl
    · rw [if_neg h92] at hq
      by_cases hp : 33 ≤ r ∧ r ≤ 126
      · rw [if_pos hp] at hq
        refine .inl ⟨UInt8.ofNat r, ?_, hq, ?_⟩
        · have : (UInt8.ofNat r).toNat = r := by simp; omega
          unfold plB
          rw [this, decide_eq_true hp.1, decide_eq_true hp.2, decide_eq_false h92]; rfl
        · rw [he.1]; unfold enc; rw [if_pos (by omega)]
      · rw [if_neg hp] at hq
        exact .inr (.inr (.inr ⟨r, he.2, hq, he.1⟩))

theorem hexL_two (n : Nat) (h1 : 16 ≤ n) (h2 : n < 256) : hexL n = [dg (n / 16), dg (n % 16)] := by
  rw [hexL_high n h1, hexL_low (n / 16) (by omega)]; rfl

theorem dg_facts (n : Nat) (h : n < 16) : (48 ≤ (dg n).toNat ∧ (dg n).toNat ≤ 57) ∨ (97 ≤ (dg n).toNat ∧ (dg n).toNat ≤ 102) := by
  obtain rfl | rfl | rfl | rfl | rfl | rfl | rfl | rfl | rfl | rfl | rfl | rfl | rfl | rfl | rfl | rfl : n = 0 ∨ n = 1 ∨ n = 2 ∨ n = 3 ∨ n = 4 ∨ n = 5 ∨ n = 6 ∨ n = 7 ∨ n = 8 ∨ n = 9 ∨ n = 10 ∨ n = 11 ∨ n = 12 ∨ n = 13 ∨ n = 14 ∨ n = 15 := by omega
  all_goals decide

theorem hexL_digits : ∀ (f n : Nat), n < f → ∀ b ∈ hexL n, (48 ≤ b.toNat ∧ b.toNat ≤ 57) ∨ (97 ≤ b.toNat ∧ b.toNat ≤ 102)
  | 0, n, h => by omega
  | f + 1, n, h => by
    intro b hb
    by_cases h16 : n < 16
    · rw [hexL_low n h16] at hb
      rw [List.mem_singleton.1 hb]; exact dg_facts n h16
    · rw [hexL_high n (by omega)] at hb
      rcases List.mem_append.1 hb with hb | hb
      · exact hexL_digits f (n / 16) (by omega) b hb
      · rw [List.mem_singleton.1 hb]; exact dg_facts _ (by omega)

theorem hexL_dig (n : Nat) : ∀ b ∈ hexL n, (48 ≤ b.toNat ∧ b.toNat ≤ 57) ∨ (97 ≤ b.toNat ∧ b.toNat ≤ 102) := hexL_digits (n + 1) n (by omega)

theorem qc_ne (u : List UInt8) (hne : u ≠ []) : qc u ≠ [] := by
  rcases qc_cases u hne with ⟨b, _, h, _⟩ | ⟨h, _⟩ | ⟨n, _, _, h, _⟩ | ⟨r, _, h, _⟩ <;> rw [h] <;> simp

/-- A quoted text has signs alone. -/
theorem qc_signs (u : List UInt8) (hne : u ≠ []) : ∀ b ∈ qc u, 33 ≤ b.toNat ∧ b.toNat ≤ 126 := by
  intro b hb
  rcases qc_cases u hne with ⟨c, hp, h, _⟩ | ⟨h, _⟩ | ⟨n, _, _, h, _⟩ | ⟨r, _, h, _⟩
  · rw [h] at hb
    rw [List.mem_singleton.1 hb]
    simp only [plB, Bool.and_eq_true, decide_eq_true_eq, Bool.not_eq_true', decide_eq_false_iff_not] at hp
    exact ⟨hp.1.1, hp.1.2⟩
  · rw [h] at hb
    simp at hb; rw [hb]; decide
  · rw [h] at hb
    rcases List.mem_append.1 hb with hb | hb
    · simp at hb; rcases hb with rfl | rfl <;> decide
    · have := hexL_dig n b hb; omega
  · rw [h] at hb
    rcases List.mem_append.1 hb with hb | hb
    · rcases List.mem_append.1 hb with hb | hb
      · simp at hb; rcases hb with rfl | rfl <;> decide
      · have := hexL_dig r b hb; omega
    · rw [List.mem_singleton.1 hb]; decide

theorem quoteF_signs : ∀ l, ∀ b ∈ quoteF l, 33 ≤ b.toNat ∧ b.toNat ≤ 126 := by
  apply cut_ind
  · intro b hb; simp [quoteF_nil] at hb
  · intro l h ih b hb
    rw [quoteF_cons l h] at hb
    rcases List.mem_append.1 hb with hb | hb
    · exact qc_signs l h b hb
    · exact ih b hb

theorem quote_signs (l : List UInt8) : ∀ b ∈ quote l, 33 ≤ b.toNat ∧ b.toNat ≤ 126 := by
  unfold quote; split
  · intro b hb; simp at hb; rcases hb with rfl | rfl <;> decide
  · exact quoteF_signs l

theorem quote_ne (l : List UInt8) : quote l ≠ [] := by
  unfold quote; split
  · simp
  · rename_i h
    rw [quoteF_cons l h]
    intro e
    exact qc_ne l h (List.append_eq_nil_iff.1 e).1

end Go.Rc1
