/-
  Plain: a text's bytes behind a place; what a rune of more than one byte is.
-/
import Derived.Test.YtcaidhmolnnikaaGreatDoorLexM
import Derived.Lib.OthersKept
namespace Go.Proofs.YtcaidhmolnnikaaGreatDoor
open Go.RowKit
set_option linter.unusedVariables false
set_option linter.unusedSimpArgs false
theorem dec_high (s : ByteArray) (p : Nat) (hp : p < s.size) (h : 128 ≤ (s[p]'hp).toNat) : 128 ≤ (Utf8.decode s p).1 ∧ (Utf8.decode s p).1 ≤ 2147483647 := by
  refine ⟨?_, decode_le s p⟩
  have hg : (s.get! (p + 0)).toNat = (s[p]'hp).toNat := by
    rw [Nat.add_zero]
    congr 1
    simp [ByteArray.get!, ByteArray.getElem_eq_getElem_data, hp]
  have h0 : ¬ (s.get! (p + 0)).toNat < 128 := by omega
  simp only [Utf8.decode]
  rw [if_neg h0]
  repeat' split
  all_goals first | (simp_all [Utf8.runeError]; done) | (simp_all [Utf8.runeError]; omega)
theorem sub_size (s : ByteArray) (p : Nat) (hp : p ≤ s.size) : (s.extract p s.size).size = s.size - p := by
  rw [ByteArray.size_extract]
  omega
theorem bt_sub (s : ByteArray) (p k : Nat) (hp : p ≤ s.size) : bt (s.extract p s.size) k = bt s (p + k) := by
  have hz := sub_size s p hp
  unfold bt
  by_cases h : k < (s.extract p s.size).size
  · have h2 : p + k < s.size := by omega
    rw [dif_pos h, dif_pos h2]
    congr 2
    exact ByteArray.getElem_extract h
  · rw [dif_neg h, dif_neg (by omega)]
theorem digD_sub (s : ByteArray) (p k : Nat) (hp : p ≤ s.size) : digD (s.extract p s.size) k = digD s (p + k) := by
  unfold digD
  rw [bt_sub s p k hp, sub_size s p hp]
  congr 1
  by_cases h : p + k < s.size
  · rw [decide_eq_true h, decide_eq_true (by omega)]
  · rw [decide_eq_false h, decide_eq_false (by omega)]
theorem nd_sub (s : ByteArray) (p q : Nat) (hp : p + q ≤ s.size) : nd (s.extract p s.size) q = nd s (p + q) := by
  have h1 : ∀ j, digD (s.extract p s.size) (q + j) = digD s (p + q + j) := fun j => by rw [digD_sub s p _ (by omega), Nat.add_assoc]
  unfold nd
  rw [sub_size s p (by omega), show s.size - p - q = s.size - (p + q) by omega]
  congr 1
  funext j
  exact h1 j
theorem numTo_sub (s : ByteArray) (p q : Nat) (hp : p ≤ s.size) : ∀ n, numTo (s.extract p s.size) q n = numTo s (p + q) n
  | 0 => rfl
  | n + 1 => by
    simp only [numTo]
    rw [numTo_sub s p q hp n, bt_sub s p _ hp, Nat.add_assoc]
theorem satTo_sub (s : ByteArray) (p q n : Nat) (hp : p ≤ s.size) : satTo (s.extract p s.size) q n = satTo s (p + q) n := by
  unfold satTo
  rw [numTo_sub s p q hp n]
theorem numAtS_sub (s : ByteArray) (p : Nat) (hp : p < s.size) : (numAtS (s.extract p s.size) 0).1 = (numAtS s p).1 ∧ p + (numAtS (s.extract p s.size) 0).2.1 = (numAtS s p).2.1 ∧ (numAtS (s.extract p s.size) 0).2.2 = (numAtS s p).2.2 := by
  have hb : bt (s.extract p s.size) 0 = bt s p := by rw [bt_sub s p 0 (by omega), Nat.add_zero]
  unfold numAtS
  dsimp only
  rw [hb]
  by_cases h : bt s p = 95
  · simp only [if_pos h]
    rw [nd_sub s p (0 + 1) (by omega), satTo_sub s p (0 + 1) _ (by omega), show p + (0 + 1) = p + 1 by omega]
    split
    · exact ⟨rfl, by dsimp only, rfl⟩
    · split
      · exact ⟨rfl, by dsimp only; omega, rfl⟩
      · exact ⟨rfl, by dsimp only; omega, rfl⟩
  · simp only [if_neg h]
    rw [nd_sub s p 0 (by omega), satTo_sub s p 0 _ (by omega), Nat.add_zero]
    split
    · exact ⟨rfl, by dsimp only; omega, rfl⟩
    · split
      · exact ⟨rfl, by dsimp only; omega, rfl⟩
      · exact ⟨rfl, by dsimp only; omega, rfl⟩
theorem tkAt_sub (s : ByteArray) (p : Nat) (hp : p < s.size) : (tkAt (s.extract p s.size) 0).1 = (tkAt s p).1 ∧ (tkAt (s.extract p s.size) 0).2.1 = (tkAt s p).2.1 ∧ p + (tkAt (s.extract p s.size) 0).2.2.1 = (tkAt s p).2.2.1 ∧ (tkAt (s.extract p s.size) 0).2.2.2 = (tkAt s p).2.2.2 := by
  have hb : bt (s.extract p s.size) 0 = bt s p := by rw [bt_sub s p 0 (by omega), Nat.add_zero]
  have hd : digD (s.extract p s.size) 0 = digD s p := by rw [digD_sub s p 0 (by omega), Nat.add_zero]
  obtain ⟨n1, n2, n3⟩ := numAtS_sub s p hp
  unfold tkAt
  rw [hb, hd]
  by_cases h : digD s p = true ∨ bt s p = 95
  · rw [if_pos h, if_pos h]
    exact ⟨rfl, n1, n2, n3⟩
  · rw [if_neg h, if_neg h]
    repeat' split
    all_goals exact ⟨rfl, rfl, rfl, rfl⟩
end Go.Proofs.YtcaidhmolnnikaaGreatDoor
