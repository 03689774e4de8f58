/-
  Walks: what the words of the codes are to one another; the draw of a code (DrawCodeText).
-/
import Derived.Test.YtnclnnkkkofjaaaDoorOnceX
import Derived.Test.YtnclnnkkkofjaaaDoorDraws
namespace Go.Proofs.YtnclnnkkkofjaaaDoor
open Go.RowKit
set_option linter.unusedVariables false
set_option linter.unusedSimpArgs false
theorem text_bne (V : ByteArray) : (V != V) = false := by
  show (!(V == V)) = false
  have h : (V == V) = true := by
    cases V with | mk d => show (d == d) = true; exact beq_self_eq_true d
  rw [h]; rfl
theorem words_apart : ∀ i, i < 11 → ∀ k, k < 11 → i ≠ k → ((wordsL.getD i ⟨#[]⟩).toList == (wordsL.getD k ⟨#[]⟩).toList) = false := by decide +kernel
theorem words_some : ∀ i, i < 11 → (wordsL.getD i ⟨#[]⟩).toList.isEmpty = false := by decide +kernel
theorem word_some (c : Int) : (wordV c).toList.isEmpty = false := by
  rw [wordV]
  split
  · exact words_some _ (by omega)
  · decide +kernel
theorem word_apart {i k : Int} (hi : 0 ≤ i ∧ i ≤ 10) (hk : 0 ≤ k ∧ k ≤ 10) (h : i ≠ k) : ((wordV i).toList == (wordV k).toList) = false := by
  rw [wordV, wordV, if_pos (by omega), if_pos (by omega)]
  exact words_apart _ (by omega) _ (by omega) (by omega)
theorem word_bad {k : Int} (h : ¬ (0 ≤ k ∧ k ≤ 10)) : wordV k = ⟨#[98, 97, 100]⟩ := by
  rw [wordV, if_neg (by omega)]
set_option maxRecDepth 20000 in
set_option maxHeartbeats 1000000 in
theorem drawCodeText_spec {w : World} {a : Option Addr} {len cap : Nat} (hs : Src w.heap.size w a len) (hb20 : len ≤ 1048576) :
    Calls Tryd.prog 8 #[.slice a len cap] w fun e w' => ∃ k : Int, -1 ≤ k ∧ k ≤ 12 ∧ e = .returned (.int .i64 k) ∧ Below w.heap.size w w' := by
  have HS : Hid (Src w.heap.size w a len) := hs
  clear hs
  go_enter Tryd.func8, Tryd.ntmps8
  go_wp2_with fail
  refine (new_spec HS.out hb20).mono ?_
  rintro e w1 ⟨g, rfl, hb, hd⟩
  have HB : Hid (Below w.heap.size w w1) := hb
  have HD : Hid (DrawOk w.heap.size g w1) := hd
  clear hb hd
  go_wp2_with fail
  refine (below_small HD.out 14 (by decide) (by decide)).mono ?_
  rintro e w2 ⟨y, y1, y2, rfl, hb, hd⟩
  have HB2 : Hid (But g w1 w2) := hb
  clear hb hd
  go_wp2
  go_ret
  exact ⟨_, by omega, by omega, rfl, HB.out.trans (HB2.out.below HD.out.1 HD.out.2.1)⟩
end Go.Proofs.YtnclnnkkkofjaaaDoor
