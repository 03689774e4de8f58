
/-
  Walks: the specification's Scan.
-/
import Derived.Test.YtbmkfmppcojcgaaSpecRed
import Derived.Test.YtbmkfmppcojcgaaSpecMake1
import Derived.Test.YtbmkfmppcojcgaaSpecMake5
import Derived.Test.YtbmkfmppcojcgaaCuts
namespace Go.Proofs.Ytbmkfmppcojcgaa
open Go.RowKit
set_option linter.unusedVariables false
set_option linter.unusedSimpArgs false
/-- One array of one's own more. -/
theorem RI.grow {B : Nat} {w0 wr w2 : World} {v : Value} {k : Nat} {xs : List Value} {F : List (List Int)} {x y : Value} (h : RI B w0 wr v k xs F) (hk : k < 1000000) (hb : Below wr.heap.size wr w2)
    (ha : Arr wr.heap.size w2.heap.size w2 (.agg #[x, y]) (F.getD (2 * k) []) (F.getD (2 * k + 1) [])) :
    ∃ a' c' w', (Builtin.append_ #[60, 60] 60 #[v, .slice (some ⟨w2.heap.size, 0, none⟩) 1 1]).run Try.prog (w2.alloc (.cells #[x, y] 26)) = .ok (.slice a' (k + 1) c') w' ∧ RI B w0 w' (.slice a' (k + 1) c') (k + 1) (xs ++ [x, y]) F := by
  obtain ⟨i, hq, z1, z2, z3⟩ : ∃ i, Try.prog.info? 26 = some i ∧ i.zero = some (.agg #[.slice none 0 0, .slice none 0 0]) ∧ i.size = 2 ∧ i.bytes = 48 := by
    have hi := info_arr
    cases hq : Try.prog.info? 26 with
    | none => rw [hq] at hi; cases hi
    | some i => rw [hq] at hi; simp at hi; exact ⟨i, rfl, hi.1, hi.2.1, hi.2.2⟩
  obtain ⟨x', y', e', px, py, hap⟩ := ha
  obtain ⟨rfl, rfl⟩ : x = x' ∧ y = y' := by cases e'; exact ⟨rfl, rfl⟩
  obtain ⟨a1, c1, ex, _⟩ := px.ints
  obtain ⟨a2, c2, ey, _⟩ := py.ints
  have hz := hb.size
  have hB := h.size
  have hb' : Below wr.heap.size wr (w2.alloc (.cells #[x, y] 26)) := bAlloc hb _
  obtain ⟨g, cap, w', hr, h2, h3, h4, h5⟩ := run_append_lies (P := Try.prog) (w := w2.alloc (.cells #[x, y] 26)) 60 60 B 26 i _ 2 48 Try.underlying60 hq z1 z2 z3 rfl (by decide) v k xs (ownsRow_keep h.own hb') ⟨w2.heap.size, 0, none⟩ 1 1 [x, y] rfl (World.news_of_block (cs := #[x, y]) (heap_alloc_new w2 _)) (by rw [ex, ey]; simp [Value.oneCell']) (by decide) (by unfold maxLen; omega) (by omega) (by simp; omega) _ rfl
  refine ⟨_, _, w', hr, h.step hb' ?_ ?_ hap h2 h3 h4⟩
  · exact (px.keep (bAlloc (Below.refl _ _) _)).mono (Nat.le_refl _) (by simp)
  · exact (py.keep (bAlloc (Below.refl _ _) _)).mono (Nat.le_refl _) (by simp)
theorem ri_new (w : World) (F : List (List Int)) : RI w.heap.size w (w.alloc (.cells #[] 26)) (.slice (some ⟨w.heap.size, 0, none⟩) 0 0) 0 [] F :=
  ⟨⟨rfl, .inr ⟨w.heap.size, 0, #[], rfl, Nat.le_refl _, heap_alloc_new w _, Nat.le_refl _, by unfold maxLen; omega, rfl, rfl⟩⟩, fun j hj => by omega, fun i j _ hj => by omega, fun j hj => by omega, bAlloc (Below.refl _ _) _, by simp⟩
theorem catF_flat (t : List Int) (f : Nat → List Int) (n : Nat) : catF ((List.range n).flatMap (fun i => [t, f i])) n = (List.range n).flatMap f := by
  unfold catF
  rw [List.flatMap_def, List.flatMap_def]
  congr 1
  apply List.map_congr_left
  intro i hi
  exact flat2_odd (fun _ => t) f (by simpa using hi)
theorem scanR_bad {g : Int} {s d : List Int} (h : ¬ (arrOk s d = true ∧ sign2 g = true)) : scanR g s d = (1, [], []) := by
  unfold scanR; rw [show scanC g s d = 1 from by unfold scanC; rw [if_neg h]]; rfl
theorem scanR_nil {g : Int} {d : List Int} (h : arrOk [] d = true ∧ sign2 g = true) : scanR g [] d = (0, [], d) := by
  unfold scanR; rw [show scanC g [] d = 0 from by unfold scanC; rw [if_pos h, if_pos rfl]]; unfold scanD; rw [if_pos rfl]; rfl
theorem scanR_told {g : Int} {s d : List Int} (h : arrOk s d = true ∧ sign2 g = true) (hs : s ≠ []) : scanR g s d = mkR (firstC (fun i => (scanK g s d i).1) (rowsN s)) s ((List.range (rowsN s)).flatMap (fun i => (scanK g s d i).2)) := by
  unfold scanR scanC scanD; rw [if_pos h, if_neg hs, if_neg hs]
theorem scanK_len {g : Int} {s d : List Int} (ho : arrOk s d = true) (hs : s ≠ []) (i : Nat) : (scanK g s d i).2.length ≤ 300 := redL_len (take_ok (rowsD_ok ho hs) _)
end Go.Proofs.Ytbmkfmppcojcgaa
