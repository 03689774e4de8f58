/-
  Plain: the text of a token and of tokens; which lists of tokens are right.
-/
import Derived.Test.YtnebjnglcfebeaaDoorTokOk
import Derived.Test.YtnebjnglcfebeaaDoorTokT
import Derived.Test.YtnebjnglcfebeaaDoorDigS
import Derived.Laws.Runes
namespace Go.Proofs.YtnebjnglcfebeaaDoor
open Go.RowKit
set_option linter.unusedVariables false
set_option linter.unusedSimpArgs false
/-- The text of a token. -/
def tokW (k v : Int) : ByteArray := if k = 1 then digB v else if k = 2 then strOfNums [65 + v] else if k = 3 then strOfNums [v] else if k = 4 then ⟨#[40]⟩ else if k = 5 then ⟨#[41]⟩ else ⟨#[58]⟩
theorem one_size (x : Int) : (strOfNums [x]).size = 1 := by rw [strOfNums_size]; rfl
theorem tokW_size {k v : Int} (h : tokB k v = true) : (tokW k v).size ≤ 22 := by
  unfold tokW
  split
  · rename_i e
    subst e
    exact digB_size h
  · split
    · rw [one_size]; omega
    · split
      · rw [one_size]; omega
      · split
        · exact (by decide : (1 : Nat) ≤ 22)
        · split
          · exact (by decide : (1 : Nat) ≤ 22)
          · exact (by decide : (1 : Nat) ≤ 22)
/-- Whether the first k are right. -/
def tokAll (E : Nat → Spn) : Nat → Bool
  | 0 => true
  | k + 1 => tokAll E k && tokB (E k).f (E k).t
theorem tokAll_at {E : Nat → Spn} : ∀ {n : Nat}, tokAll E n = true → ∀ {i : Nat}, i < n → tokB (E i).f (E i).t = true
  | 0, _, i, h => absurd h (by omega)
  | n + 1, h, i, hi => by
    simp only [tokAll, Bool.and_eq_true] at h
    by_cases e : i = n
    · subst e; exact h.2
    · exact tokAll_at h.1 (by omega)
theorem tokAll_no {E : Nat → Spn} {n i : Nat} (hi : i < n) (h : tokB (E i).f (E i).t = false) : tokAll E n = false := by
  cases e : tokAll E n
  · rfl
  · rw [tokAll_at e hi] at h; cases h
theorem tokAll_next {E : Nat → Spn} {k : Nat} (h : tokAll E k = true) (q : tokB (E k).f (E k).t = true) : tokAll E (k + 1) = true := by
  simp only [tokAll, h, q]; rfl
/-- A right list of tokens. -/
def tokR (n : Nat) (E : Nat → Spn) : Bool := tokAll E n && decide (n ≤ 300)
/-- The first k of them as a text, one blank between each two. -/
def tokJ (E : Nat → Spn) : Nat → ByteArray
  | 0 => ⟨#[]⟩
  | k + 1 => (if k = 0 then tokJ E k else tokJ E k ++ ⟨#[32]⟩) ++ tokW (E k).f (E k).t
def tokV (n : Nat) (E : Nat → Spn) : ByteArray := if tokR n E = true then tokJ E n else ⟨#[]⟩
theorem tokJ_le {E : Nat → Spn} {n : Nat} (h : tokAll E n = true) : ∀ {k : Nat}, k ≤ n → (tokJ E k).size ≤ 23 * k
  | 0, _ => by simp [tokJ, ByteArray.size]
  | k + 1, hk => by
    have h1 := tokJ_le h (k := k) (by omega)
    have h2 := tokW_size (tokAll_at h (i := k) (by omega))
    have e : ByteArray.size ⟨#[32]⟩ = 1 := rfl
    simp only [tokJ]
    split
    · rw [str_len]; omega
    · rw [str_len, str_len]; omega
theorem encode_small {n : Int} (h0 : 0 ≤ n) (h1 : n < 128) : Utf8.encode n = strOfNums [n] := by
  obtain ⟨m, rfl⟩ : ∃ m : Nat, n = (m : Int) := ⟨n.toNat, by omega⟩
  have hm : m < 128 := by omega
  have v : Utf8.valid (m : Int) = true := by simp [Utf8.valid]; omega
  simp [Utf8.encode, v, hm, strOfNums]
end Go.Proofs.YtnebjnglcfebeaaDoor
