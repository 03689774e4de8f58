/-
  Plain: a token's text is read back as that token; the text of right tokens as these tokens.
-/
import Derived.Test.YtcaidhmolnnikaaGreatDoorLexW
namespace Go.Proofs.YtcaidhmolnnikaaGreatDoor
open Go.RowKit
set_option linter.unusedVariables false
set_option linter.unusedSimpArgs false
theorem bt_one {x : Int} (h0 : 0 ≤ x) (h1 : x < 256) : bt (strOfNums [x]) 0 = x := by
  have hs : 0 < (strOfNums [x]).size := by rw [one_size]; decide
  rw [bt_at _ hs]
  have e : (strOfNums [x])[0]'hs = UInt8.ofNat x.toNat := rfl
  rw [e]
  have e2 : (UInt8.ofNat x.toNat).toNat = x.toNat := by
    rw [UInt8.toNat_ofNat']
    omega
  rw [e2]
  omega
/-- From place p on s has w's bytes. -/
def Has (s : ByteArray) (p : Nat) (w : ByteArray) : Prop := p + w.size ≤ s.size ∧ ∀ j, j < w.size → bt s (p + j) = bt w j
theorem Has.left {s : ByteArray} {p : Nat} {a b : ByteArray} (h : Has s p (a ++ b)) : Has s p a := by
  obtain ⟨h1, h2⟩ := h
  rw [str_len] at h1 h2
  exact ⟨by omega, fun j hj => by rw [h2 j (by omega), bt_app, if_pos hj]⟩
theorem Has.right {s : ByteArray} {p : Nat} {a b : ByteArray} (h : Has s p (a ++ b)) : Has s (p + a.size) b := by
  obtain ⟨h1, h2⟩ := h
  rw [str_len] at h1 h2
  exact ⟨by omega, fun j hj => by rw [Nat.add_assoc, h2 (a.size + j) (by omega), bt_app, if_neg (by omega), Nat.add_sub_cancel_left]⟩
theorem Has.one {s : ByteArray} {p : Nat} {x : Int} (h : Has s p (strOfNums [x])) (h0 : 0 ≤ x) (h1 : x < 256) : bt s p = x ∧ p < s.size := by
  obtain ⟨a, b⟩ := h
  rw [one_size] at a b
  have := b 0 (by omega)
  rw [Nat.add_zero, bt_one h0 h1] at this
  exact ⟨this, by omega⟩
theorem dgs_read (s : ByteArray) (q : Nat) : ∀ N : Nat, Has s q (dgs N) → (∀ j, j < (dgs N).size → digD s (q + j) = true) ∧ numTo s q (dgs N).size = N ∧ 0 < (dgs N).size := by
  intro N
  induction N using Nat.strongRecOn with
  | _ N ih =>
    intro h
    by_cases h9 : N < 10
    · rw [dgs_small h9] at h ⊢
      obtain ⟨a, b⟩ := h.one (by omega) (by omega)
      rw [one_size]
      refine ⟨fun j hj => ?_, ?_, by decide⟩
      · obtain rfl : j = 0 := by omega
        unfold digD
        rw [Nat.add_zero, a, decide_eq_true b, decide_eq_true (by omega), decide_eq_true (by omega)]
        rfl
      · show 10 * 0 + (bt s (q + 0) - 48).toNat = N
        rw [Nat.add_zero, a]
        omega
    · rw [dgs_step h9] at h ⊢
      obtain ⟨i1, i2, i3⟩ := ih (N / 10) (by omega) h.left
      obtain ⟨a, b⟩ := h.right.one (by omega) (by omega)
      rw [str_len, one_size]
      refine ⟨fun j hj => ?_, ?_, by omega⟩
      · by_cases e : j < (dgs (N / 10)).size
        · exact i1 j e
        · obtain rfl : j = (dgs (N / 10)).size := by omega
          unfold digD
          rw [a, decide_eq_true b, decide_eq_true (by omega), decide_eq_true (by omega)]
          rfl
      · show 10 * numTo s q (dgs (N / 10)).size + (bt s (q + (dgs (N / 10)).size) - 48).toNat = N
        rw [i2, a]
        omega
theorem dgs_num (s : ByteArray) (q N : Nat) (h : Has s q (dgs N)) (he : digD s (q + (dgs N).size) = false) (hN : (N : Int) ≤ 1000000000000) : nd s q = (dgs N).size ∧ satTo s q (nd s q) = (N : Int) ∧ nd s q ≠ 0 := by
  obtain ⟨h1, h2, h3⟩ := dgs_read s q N h
  have hn : nd s q = (dgs N).size := nd_eq h1 he (by have := h.1; omega)
  refine ⟨hn, ?_, by omega⟩
  rw [hn]
  unfold satTo
  rw [h2, if_pos (by omega)]
/-- A right token's text is read as that token, if no digit stands behind. -/
theorem tokW_read {s : ByteArray} {p : Nat} {k v : Int} (ht : tokB k v = true) (h : Has s p (tokW k v)) (he : digD s (p + (tokW k v).size) = false) : tkAt s p = (k, v, p + (tokW k v).size, 0) ∧ bt s p ≠ 32 ∧ p < s.size := by
  unfold tokB at ht
  by_cases k1 : k = 1
  · subst k1
    rw [if_pos rfl] at ht
    have hb : -1000000000000 ≤ v ∧ v ≤ 1000000000000 := by simpa [ok] using ht
    have ew : tokW 1 v = digB v := rfl
    rw [ew] at h he ⊢
    by_cases hv : v < 0
    · obtain ⟨N, rfl⟩ : ∃ N : Nat, v = -(N : Int) := ⟨(-v).toNat, by omega⟩
      rw [digB_neg (by omega)] at h he ⊢
      have e1 : (⟨#[95]⟩ : ByteArray) = strOfNums [95] := rfl
      rw [e1] at h he ⊢
      obtain ⟨a, b⟩ := h.left.one (by decide) (by decide)
      have h2 := h.right
      rw [one_size] at h2
      rw [str_len, one_size] at he ⊢
      obtain ⟨d1, d2, d3⟩ := dgs_num s (p + 1) N h2 (by rw [show p + 1 + (dgs N).size = p + (1 + (dgs N).size) by omega]; exact he) (by omega)
      refine ⟨?_, by rw [a]; decide, b⟩
      unfold tkAt
      rw [if_pos (.inr a)]
      unfold numAtS
      dsimp only
      simp only [if_pos a]
      rw [if_neg d3, d2, if_neg (by omega), d1]
      simp only [Prod.mk.injEq, true_and, and_true]
      omega
    · obtain ⟨N, rfl⟩ : ∃ N : Nat, v = (N : Int) := ⟨v.toNat, by omega⟩
      rw [digB_nat] at h he ⊢
      obtain ⟨d1, d2, d3⟩ := dgs_num s p N h he (by omega)
      obtain ⟨r1, r2, r3⟩ := dgs_read s p N h
      have hd := r1 0 r3
      rw [Nat.add_zero] at hd
      have hbd := digD_bd hd
      refine ⟨?_, by omega, by have := h.1; omega⟩
      unfold tkAt
      rw [if_pos (.inl hd)]
      unfold numAtS
      dsimp only
      simp only [if_neg (show ¬ bt s p = 95 by omega)]
      rw [if_neg d3, d2, if_neg (by omega), d1]
  · rw [if_neg k1] at ht
    have single : ∀ x : Int, 0 ≤ x → x < 256 → tokW k v = strOfNums [x] → x ≠ 32 → ¬ (48 ≤ x ∧ x ≤ 57) → x ≠ 95 → (if 65 ≤ x ∧ x ≤ 90 then ((2 : Int), x - 65, p + 1, (0 : Int)) else if x = 40 then (4, 0, p + 1, 0) else if x = 41 then (5, 0, p + 1, 0) else if x = 58 then (6, 0, p + 1, 0) else if signB x = true then (3, x, p + 1, 0) else (0, 0, p + 1, 8)) = (k, v, p + 1, 0) → tkAt s p = (k, v, p + (tokW k v).size, 0) ∧ bt s p ≠ 32 ∧ p < s.size := by
      intro x x0 x1 ew n32 nd9 n95 hx
      rw [ew] at h ⊢
      obtain ⟨a, b⟩ := h.one x0 x1
      rw [one_size]
      refine ⟨?_, by rw [a]; exact n32, b⟩
      have hno : ¬ (digD s p = true ∨ bt s p = 95) := by
        rintro (hd | hd)
        · have := digD_bd hd; omega
        · omega
      unfold tkAt
      rw [if_neg hno, a]
      exact hx
    by_cases k2 : k = 2
    · subst k2
      rw [if_pos rfl] at ht
      simp only [Bool.and_eq_true, decide_eq_true_eq] at ht
      refine single (65 + v) (by omega) (by omega) rfl (by omega) (by omega) (by omega) ?_
      rw [if_pos (by omega), show 65 + v - 65 = v by omega]
    · rw [if_neg k2] at ht
      by_cases k3 : k = 3
      · subst k3
        rw [if_pos rfl] at ht
        have hb := sign_bd ht
        have hs : ∀ y : Int, signB y = false → v ≠ y := fun y hy e => by rw [e, hy] at ht; cases ht
        have q95 := hs 95 (by decide)
        have q40 := hs 40 (by decide)
        have q41 := hs 41 (by decide)
        have q58 := hs 58 (by decide)
        have qd : ¬ (48 ≤ v ∧ v ≤ 57) := by
          have a0 := hs 48 (by decide); have a1 := hs 49 (by decide); have a2 := hs 50 (by decide); have a3 := hs 51 (by decide); have a4 := hs 52 (by decide)
          have a5 := hs 53 (by decide); have a6 := hs 54 (by decide); have a7 := hs 55 (by decide); have a8 := hs 56 (by decide); have a9 := hs 57 (by decide)
          omega
        have qu : ¬ (65 ≤ v ∧ v ≤ 90) := by
          have a0 := hs 65 (by decide); have a1 := hs 66 (by decide); have a2 := hs 67 (by decide); have a3 := hs 68 (by decide); have a4 := hs 69 (by decide)
          have a5 := hs 70 (by decide); have a6 := hs 71 (by decide); have a7 := hs 72 (by decide); have a8 := hs 73 (by decide); have a9 := hs 74 (by decide)
          have b0 := hs 75 (by decide); have b1 := hs 76 (by decide); have b2 := hs 77 (by decide); have b3 := hs 78 (by decide); have b4 := hs 79 (by decide)
          have b5 := hs 80 (by decide); have b6 := hs 81 (by decide); have b7 := hs 82 (by decide); have b8 := hs 83 (by decide); have b9 := hs 84 (by decide)
          have c0 := hs 85 (by decide); have c1 := hs 86 (by decide); have c2 := hs 87 (by decide); have c3 := hs 88 (by decide); have c4 := hs 89 (by decide); have c5 := hs 90 (by decide)
          omega
        refine single v (by omega) (by omega) rfl (by omega) qd q95 ?_
        rw [if_neg qu, if_neg q40, if_neg q41, if_neg q58, if_pos ht]
      · rw [if_neg k3] at ht
        by_cases k46 : k = 4 ∨ k = 5 ∨ k = 6
        · rw [if_pos k46] at ht
          obtain rfl : v = 0 := by simpa using ht
          rcases k46 with rfl | rfl | rfl
          · exact single 40 (by decide) (by decide) rfl (by decide) (by decide) (by decide) rfl
          · exact single 41 (by decide) (by decide) rfl (by decide) (by decide) (by decide) rfl
          · exact single 58 (by decide) (by decide) rfl (by decide) (by decide) (by decide) rfl
        · rw [if_neg k46] at ht; cases ht
end Go.Proofs.YtcaidhmolnnikaaGreatDoor
