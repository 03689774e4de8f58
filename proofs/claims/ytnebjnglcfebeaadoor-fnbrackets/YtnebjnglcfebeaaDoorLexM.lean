/-
  Plain: the tokens of a text, or the code and the place of its first mistake.
-/
import Derived.Test.YtnebjnglcfebeaaDoorTokW
import Derived.Test.YtnebjnglcfebeaaDoorLeadM
namespace Go.Proofs.YtnebjnglcfebeaaDoor
open Go.RowKit
set_option linter.unusedVariables false
set_option linter.unusedSimpArgs false
/-- A text's byte as a number. -/
def bt (s : ByteArray) (k : Nat) : Int := if h : k < s.size then ((s[k]'h).toNat : Int) else 0
theorem bt_at (s : ByteArray) {k : Nat} (h : k < s.size) : bt s k = ((s[k]'h).toNat : Int) := by unfold bt; rw [dif_pos h]
theorem bt_bd (s : ByteArray) (k : Nat) : 0 ≤ bt s k ∧ bt s k ≤ 255 := by
  unfold bt
  split
  · next h => have := (s[k]'h).toNat_lt; omega
  · omega
def digD (s : ByteArray) (k : Nat) : Bool := decide (k < s.size) && (decide (48 ≤ bt s k) && decide (bt s k ≤ 57))
/-- How many digits from a place on. -/
def nd (s : ByteArray) (p : Nat) : Nat := lead (fun j => digD s (p + j)) (s.size - p)
theorem nd_le (s : ByteArray) (p : Nat) : nd s p ≤ s.size - p := lead_le _ _
theorem digD_out (s : ByteArray) {k : Nat} (h : s.size ≤ k) : digD s k = false := by unfold digD; rw [decide_eq_false (by omega)]; rfl
theorem nd_eq {s : ByteArray} {p m : Nat} (h1 : ∀ j, j < m → digD s (p + j) = true) (h2 : digD s (p + m) = false) (hp : p ≤ s.size) : nd s p = m := by
  have hm : m ≤ s.size - p := by
    rcases Nat.lt_or_ge (s.size - p) m with h | h
    · have := h1 (s.size - p) h
      rw [digD_out s (by omega)] at this
      cases this
    · exact h
  exact lead_eq hm h1 (.inr h2)
/-- The value of the first n digits from a place on. -/
def numTo (s : ByteArray) (q : Nat) : Nat → Nat
  | 0 => 0
  | n + 1 => 10 * numTo s q n + (bt s (q + n) - 48).toNat
/-- The same, no more than one above the greatest number. -/
def satTo (s : ByteArray) (q n : Nat) : Int := if (numTo s q n : Int) ≤ 1000000000001 then (numTo s q n : Int) else 1000000000001
theorem satTo_zero (s : ByteArray) (q : Nat) : satTo s q 0 = 0 := rfl
theorem satTo_bd (s : ByteArray) (q n : Nat) : 0 ≤ satTo s q n ∧ satTo s q n ≤ 1000000000001 := by unfold satTo; split <;> omega
theorem satTo_succ {s : ByteArray} {q n : Nat} (h : 48 ≤ bt s (q + n)) : satTo s q (n + 1) = if 10 * satTo s q n + bt s (q + n) - 48 < 1000000000001 then 10 * satTo s q n + bt s (q + n) - 48 else 1000000000001 := by
  have e : (numTo s q (n + 1) : Int) = 10 * (numTo s q n : Int) + (bt s (q + n) - 48) := by
    simp only [numTo]
    omega
  unfold satTo
  rw [e]
  split <;> split <;> split <;> omega
/-- A number's token at a place: it, the place behind, a code. -/
def numAtS (s : ByteArray) (p : Nat) : Int × Nat × Int :=
  let q := if bt s p = 95 then p + 1 else p
  if nd s q = 0 then (0, q, 8) else if 1000000000000 < satTo s q (nd s q) then (0, q + nd s q, 6) else (if bt s p = 95 then -(satTo s q (nd s q)) else satTo s q (nd s q), q + nd s q, 0)
/-- The token at a place: its kind, its value, the place behind, a code. -/
def tkAt (s : ByteArray) (p : Nat) : Int × Int × Nat × Int :=
  if digD s p = true ∨ bt s p = 95 then (1, (numAtS s p).1, (numAtS s p).2.1, (numAtS s p).2.2)
  else if 65 ≤ bt s p ∧ bt s p ≤ 90 then (2, bt s p - 65, p + 1, 0)
  else if bt s p = 40 then (4, 0, p + 1, 0)
  else if bt s p = 41 then (5, 0, p + 1, 0)
  else if bt s p = 58 then (6, 0, p + 1, 0)
  else if signB (bt s p) = true then (3, bt s p, p + 1, 0)
  else (0, 0, p + 1, 8)
theorem numAtS_next (s : ByteArray) {p : Nat} (hp : p < s.size) (h : digD s p = true ∨ bt s p = 95) (hc : (numAtS s p).2.2 = 0) : p < (numAtS s p).2.1 ∧ (numAtS s p).2.1 ≤ s.size := by
  have h1 := nd_le s (if bt s p = 95 then p + 1 else p)
  unfold numAtS at hc ⊢
  dsimp only at hc ⊢
  by_cases h0 : nd s (if bt s p = 95 then p + 1 else p) = 0
  · rw [if_pos h0] at hc; exact absurd (show (8 : Int) = 0 from hc) (by decide)
  · rw [if_neg h0] at hc ⊢
    by_cases h2 : 1000000000000 < satTo s (if bt s p = 95 then p + 1 else p) (nd s (if bt s p = 95 then p + 1 else p))
    · rw [if_pos h2] at hc; exact absurd (show (6 : Int) = 0 from hc) (by decide)
    · rw [if_neg h2]
      show p < (if bt s p = 95 then p + 1 else p) + nd s _ ∧ (if bt s p = 95 then p + 1 else p) + nd s _ ≤ s.size
      by_cases e : bt s p = 95
      · rw [if_pos e] at h0 h1 ⊢; omega
      · rw [if_neg e] at h0 h1 ⊢; omega
theorem tkAt_next (s : ByteArray) {p : Nat} (hp : p < s.size) (hc : (tkAt s p).2.2.2 = 0) : p < (tkAt s p).2.2.1 ∧ (tkAt s p).2.2.1 ≤ s.size := by
  unfold tkAt at hc ⊢
  by_cases h : digD s p = true ∨ bt s p = 95
  · rw [if_pos h] at hc ⊢; exact numAtS_next s hp h hc
  · rw [if_neg h] at hc ⊢
    repeat' split
    all_goals (constructor <;> simp <;> omega)
/-- Behind what is read. -/
def lexF (s : ByteArray) : Nat → Nat → List Spn → List Spn × Int × Nat
  | 0, p, acc => (acc, 0, s.size)
  | f + 1, p, acc =>
    if p < s.size then
      (if bt s p = 32 then lexF s f (p + 1) acc
       else if (tkAt s p).2.2.2 = 0 then lexF s f (tkAt s p).2.2.1 (acc ++ [⟨(tkAt s p).1, (tkAt s p).2.1⟩])
       else ([], (tkAt s p).2.2.2, p))
    else (acc, 0, s.size)
theorem lexF_any (s : ByteArray) : ∀ (f g p : Nat) (acc : List Spn), s.size ≤ p + f → s.size ≤ p + g → lexF s f p acc = lexF s g p acc
  | 0, 0, p, acc, _, _ => rfl
  | 0, g + 1, p, acc, h, _ => by simp only [lexF]; rw [if_neg (by omega)]
  | f + 1, 0, p, acc, _, h => by simp only [lexF]; rw [if_neg (by omega)]
  | f + 1, g + 1, p, acc, h1, h2 => by
    simp only [lexF]
    by_cases hp : p < s.size
    · rw [if_pos hp, if_pos hp]
      by_cases hb : bt s p = 32
      · rw [if_pos hb, if_pos hb]
        exact lexF_any s f g _ _ (by omega) (by omega)
      · rw [if_neg hb, if_neg hb]
        by_cases hc : (tkAt s p).2.2.2 = 0
        · have hn := tkAt_next s hp hc
          rw [if_pos hc, if_pos hc]
          exact lexF_any s f g _ _ (by omega) (by omega)
        · rw [if_neg hc, if_neg hc]
    · rw [if_neg hp, if_neg hp]
/-- What is still to be told from a place on. -/
def lexR (s : ByteArray) (p : Nat) (acc : List Spn) : List Spn × Int × Nat := lexF s s.size p acc
theorem lexR_end {s : ByteArray} {p : Nat} {acc : List Spn} (h : s.size ≤ p) : lexR s p acc = (acc, 0, s.size) := by
  unfold lexR
  rw [lexF_any s s.size 0 p acc (by omega) (by omega)]
  rfl
theorem lexR_blank {s : ByteArray} {p : Nat} {acc : List Spn} (hp : p < s.size) (hb : bt s p = 32) : lexR s p acc = lexR s (p + 1) acc := by
  unfold lexR
  rw [lexF_any s s.size (s.size + 1) p acc (by omega) (by omega)]
  show (if p < s.size then _ else _) = _
  rw [if_pos hp, if_pos hb]
theorem lexR_tok {s : ByteArray} {p : Nat} {acc : List Spn} (hp : p < s.size) (hb : bt s p ≠ 32) (hc : (tkAt s p).2.2.2 = 0) : lexR s p acc = lexR s (tkAt s p).2.2.1 (acc ++ [⟨(tkAt s p).1, (tkAt s p).2.1⟩]) := by
  unfold lexR
  rw [lexF_any s s.size (s.size + 1) p acc (by omega) (by omega)]
  show (if p < s.size then _ else _) = _
  rw [if_pos hp, if_neg hb, if_pos hc]
theorem lexR_bad {s : ByteArray} {p : Nat} {acc : List Spn} (hp : p < s.size) (hb : bt s p ≠ 32) (hc : (tkAt s p).2.2.2 ≠ 0) : lexR s p acc = ([], (tkAt s p).2.2.2, p) := by
  unfold lexR
  rw [lexF_any s s.size (s.size + 1) p acc (by omega) (by omega)]
  show (if p < s.size then _ else _) = _
  rw [if_pos hp, if_neg hb, if_neg hc]
/-- The tokens of a text, a code, a place. -/
def lexV (s : ByteArray) : List Spn × Int × Nat := if 300 < s.size then ([], 6, 0) else lexR s 0 []
end Go.Proofs.YtnebjnglcfebeaaDoor
