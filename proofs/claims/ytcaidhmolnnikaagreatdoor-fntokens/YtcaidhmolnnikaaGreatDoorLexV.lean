/-
  Plain: there are no more tokens than bytes.
-/
import Derived.Test.YtcaidhmolnnikaaGreatDoorLexS
import Derived.Test.YtcaidhmolnnikaaGreatDoorLexU
import Derived.Test.YtcaidhmolnnikaaGreatDoorLexC
namespace Go.Proofs.YtcaidhmolnnikaaGreatDoor
open Go.RowKit
set_option linter.unusedVariables false
set_option linter.unusedSimpArgs false
theorem lexF_len (s : ByteArray) : ∀ (f p : Nat) (acc : List Spn), acc.length ≤ p → p ≤ s.size → (lexF s f p acc).1.length ≤ s.size
  | 0, p, acc, h, hp => by simp only [lexF]; omega
  | f + 1, p, acc, h, hp => by
    simp only [lexF]
    by_cases h1 : p < s.size
    · rw [if_pos h1]
      by_cases h2 : bt s p = 32
      · rw [if_pos h2]; exact lexF_len s f _ _ (by omega) (by omega)
      · rw [if_neg h2]
        by_cases h3 : (tkAt s p).2.2.2 = 0
        · have := tkAt_next s h1 h3
          rw [if_pos h3]
          exact lexF_len s f _ _ (by simp; omega) (by omega)
        · rw [if_neg h3]; simp
    · rw [if_neg h1]; show acc.length ≤ s.size; omega
theorem lexV_len (s : ByteArray) : (lexV s).1.length ≤ s.size := by
  unfold lexV
  split
  · simp
  · exact lexF_len s _ 0 [] (by simp) (by omega)
end Go.Proofs.YtcaidhmolnnikaaGreatDoor
