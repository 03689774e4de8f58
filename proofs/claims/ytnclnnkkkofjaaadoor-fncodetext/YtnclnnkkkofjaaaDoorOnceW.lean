/-
  Walks: '(*sync.Once).Do', not yet done; the word of a code; CodeText of the program.
-/
import Derived.Test.YtnclnnkkkofjaaaDoorOnceU
import Derived.Laws.NewBlocks
namespace Go.Proofs.YtnclnnkkkofjaaaDoor
open Go.RowKit
set_option linter.unusedVariables false
set_option linter.unusedSimpArgs false
set_option maxRecDepth 100000 in
set_option maxHeartbeats 1600000 in
theorem do_words {b v : Nat} (hbv : ¬ b = v) {n : Nat} {w : World} (hp : w.cell? ⟨v, 0, none⟩ = some (.pointer (some ⟨b, 0, none⟩))) (hb : GlB w b 0 0 (.slice none 0 0)) (hlt : b < w.heap.size) (hn : n ≤ b) (ht : TabN n w) :
    Calls Tryd.prog 13 #[.pointer (some ⟨b, 0, none⟩), .func (.func 14) #[] #[.pointer (some ⟨v, 0, none⟩)]] w fun e w' => e = .returned (.tuple #[]) ∧
      ∃ k, w.heap.size ≤ k ∧ GlB w' b 1 0 (.slice (some ⟨k, 0, none⟩) 11 11) ∧ w'.heap[k]? = some (.cells (wordsL.map Value.string).toArray 9 (0, 0)) ∧ Below n w w' ∧ w'.cell? ⟨v, 0, none⟩ = some (.pointer (some ⟨b, 0, none⟩)) := by
  have hl := run_call_load (P := Tryd.prog) Tryd.func21 (by kernel_rfl) (by kernel_rfl) (by kernel_rfl) .u32 (by kernel_rfl) hb.c0
  have hnot : ∀ (x : Bool) (w : World), (Op.unary .not (.bool x)).run Tryd.prog w = .ok (.bool (!x)) w := fun _ _ => rfl
  go_enter Tryd.func13, Tryd.ntmps13
  go_wp2_with (first | (go_at_call 18; refine (slow_words hbv hp hb hlt hn ht).mono ?_; rintro e w' ⟨rfl, hk⟩) | (go_at_call 17; go_in))
  go_end0
  exact ⟨rfl, hk⟩
/-- The word of a code. -/
def wordV (c : Int) : ByteArray := if 0 ≤ c ∧ c < 11 then wordsL.getD c.toNat ⟨#[]⟩ else ⟨#[98, 97, 100]⟩
theorem word_at {w : World} {k : Nat} (h : w.heap[k]? = some (.cells (wordsL.map Value.string).toArray 9 (0, 0))) (i : Nat) (hi : i < 11) : w.cell? ⟨k, i, none⟩ = some (.string (wordsL.getD i ⟨#[]⟩)) := by
  have h0 : i < (wordsL.map Value.string).toArray.size := by show i < 11; exact hi
  simp only [World.cell?, h]
  show (wordsL.map Value.string).toArray[i]? = _
  rw [List.getElem?_toArray, List.getElem?_map, List.getD_eq_getElem?_getD, List.getElem?_eq_getElem (show i < wordsL.length from hi)]
  rfl
set_option maxRecDepth 100000 in
set_option maxHeartbeats 1600000 in
theorem word_first {b n : Nat} {w : World} (c : Int) (hb : GlB w b 0 0 (.slice none 0 0)) (hlt : b < w.heap.size) (hn : n ≤ b) (ht : TabN n w) :
    Calls Tryd.prog 10 #[.pointer (some ⟨b, 0, none⟩), .int .i64 c] w fun e w' => e = .returned (.string (wordV c)) ∧ Below n w w' := by
  have hmf : ∀ (fn : Fn) (first cap : Array Value) (w : World), (Instr.makeFunc fn first cap).run Tryd.prog w = .ok (.func fn first cap) w := fun _ _ _ _ => rfl
  have p0 : (w.alloc (.cells #[.pointer (some ⟨b, 0, none⟩)] 29)).cell? ⟨w.heap.size, 0, none⟩ = some (.pointer (some ⟨b, 0, none⟩)) := by simp
  have B0 : Below w.heap.size w (w.alloc (.cells #[.pointer (some ⟨b, 0, none⟩)] 29)) := bAlloc (Below.refl _ _) _
  have H0 := hb.keep B0
  have hl0 : b < (w.alloc (.cells #[.pointer (some ⟨b, 0, none⟩)] 29)).heap.size := by rw [show (w.alloc (.cells #[.pointer (some ⟨b, 0, none⟩)] 29)).heap.size = w.heap.size + 1 from by simp only [World.alloc, Array.size_push]]; omega
  have T0 : TabN n (w.alloc (.cells #[.pointer (some ⟨b, 0, none⟩)] 29)) := ht.on (B0.mono (by omega))
  by_cases hc0 : c < 0
  · have hv : wordV c = wordsL.getD 1 ⟨#[]⟩ := by rw [wordV, if_neg (by omega)]; rfl
    have x0 : decide (c < 0) = true := by simp [hc0]
    rw [hv]
    go_enter Tryd.func10, Tryd.ntmps10
    go_wp2_with (go_at_call 13; refine (do_words (by omega) p0 H0 hl0 hn T0).mono ?_; rintro e w' ⟨rfl, k, hk, hG, hW, hB, hp⟩; have g3 := hG.c3; have d0 := word_at hW 1 (by omega); clear hG hW)
    go_ret
    exact ⟨by rw [List.getD_eq_getElem?_getD]; rfl, (B0.mono (by omega)).trans hB⟩
  have x0 : decide (c < 0) = false := by simp [hc0]
  by_cases hc1 : c < 11
  · have hv : wordV c = wordsL.getD c.toNat ⟨#[]⟩ := by rw [wordV, if_pos (by omega)]
    have x1 : decide (11 ≤ c) = false := by simp; omega
    rw [hv]
    go_enter Tryd.func10, Tryd.ntmps10
    go_wp2_with (go_at_call 13; refine (do_words (by omega) p0 H0 hl0 hn T0).mono ?_; rintro e w' ⟨rfl, k, hk, hG, hW, hB, hp⟩; have g3 := hG.c3; have d0 := word_at hW c.toNat (by omega); clear hG hW)
    go_ret
    exact ⟨by rw [List.getD_eq_getElem?_getD]; rfl, (B0.mono (by omega)).trans hB⟩
  · have hv : wordV c = wordsL.getD 1 ⟨#[]⟩ := by rw [wordV, if_neg (by omega)]; rfl
    have x1 : decide (11 ≤ c) = true := by simp; omega
    rw [hv]
    go_enter Tryd.func10, Tryd.ntmps10
    go_wp2_with (go_at_call 13; refine (do_words (by omega) p0 H0 hl0 hn T0).mono ?_; rintro e w' ⟨rfl, k, hk, hG, hW, hB, hp⟩; have g3 := hG.c3; have d0 := word_at hW 1 (by omega); clear hG hW)
    go_ret
    exact ⟨by rw [List.getD_eq_getElem?_getD]; rfl, (B0.mono (by omega)).trans hB⟩
set_option maxRecDepth 100000 in
set_option maxHeartbeats 1600000 in
theorem codeText_impl {w : World} (c : Int) (ht : TabN w.heap.size w) :
    Calls Tryd.prog 6 #[.int .i64 c] w fun e w' => e = .returned (.string (wordV c)) ∧ Below w.heap.size w w' := by
  have hb : GlB (w.alloc (.cells #[.int .u32 0, .int .i32 0, .int .u32 0, .slice none 0 0] 43)) w.heap.size 0 0 (.slice none 0 0) := heap_alloc_new w _
  have hl : w.heap.size < (w.alloc (.cells #[.int .u32 0, .int .i32 0, .int .u32 0, .slice none 0 0] 43)).heap.size := by simp only [World.alloc, Array.size_push]; omega
  have B0 : Below w.heap.size w (w.alloc (.cells #[.int .u32 0, .int .i32 0, .int .u32 0, .slice none 0 0] 43)) := bAlloc (Below.refl _ _) _
  have hw := word_first c hb hl (Nat.le_refl _) (ht.on B0)
  go_enter Tryd.func6, Tryd.ntmps6
  go_wp2_with (go_at_call 10; refine hw.mono ?_; rintro e w' ⟨rfl, hB⟩)
  go_ret
  exact ⟨rfl, B0.trans hB⟩
end Go.Proofs.YtnclnnkkkofjaaaDoor
