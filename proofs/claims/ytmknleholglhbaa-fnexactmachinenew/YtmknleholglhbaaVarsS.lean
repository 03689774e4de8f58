/-
  Walks: the specification's l10Copy.
-/
import Derived.Test.YtmknleholglhbaaVarsG
import Derived.Test.YtmknleholglhbaaSpecCopy
namespace Go.Proofs.Ytmknleholglhbaa
open Go.RowKit
set_option linter.unusedVariables false
set_option linter.unusedSimpArgs false
set_option maxRecDepth 20000 in
set_option maxHeartbeats 8000000 in
/-- l10Copy. -/
theorem copyVars_spec {w : World} {v : Value} {n : Nat} {B : Nat → Bool} {S D : Nat → List Int} (h : VarsI w v n B S D) (hl : ∀ i, (S i).length ≤ 1048576 ∧ (D i).length ≤ 1048576) (hn : n ≤ 1048576) :
    Calls Try.prog 14 #[v] w fun e w' => ∃ u, e = .returned u ∧ VarsW w.heap.size w'.heap.size w' u n B S D ∧ Below w.heap.size w w' := by
  have H : Hid (VarsI w v n B S D) := h
  have HL : Hid (∀ i, (S i).length ≤ 1048576 ∧ (D i).length ≤ 1048576) := hl
  obtain ⟨a, c, rfl, _⟩ := h
  have G1 : Hid (GVars w.heap.size w (w.alloc (.cells #[] 44)) (.slice (some ⟨w.heap.size, 0, none⟩) 0 0) 0 B S D) := GVars.start w (Nat.le_refl _) B S D
  clear hl
  go_enter Try.func14, Try.ntmps14
  go_wp2
  go_loopw [3, 4] (fun u i w' => ∃ (k : Nat) (a1 : Option Addr) (c1 : Nat), k ≤ n ∧ u = .slice a1 k c1 ∧ i = .int .i64 (k : Int) ∧ GVars w.heap.size w w' (.slice a1 k c1) k B S D) (fun _ i _ => n - (intOf i).toNat)
  case atStart => exact ⟨0, _, _, by omega, rfl, rfl, G1.out⟩
  case round =>
    obtain ⟨k, a1, c1, hk, rfl, rfl, hG⟩ := hrel
    have GK : Hid (GVars w.heap.size w wr (.slice a1 k c1) k B S D) := hG
    have BR : Hid (Below w.heap.size w wr) := hG.below
    clear hG G1
    by_cases hlt : (k : Int) < (n : Int)
    · have L : k < n := by omega
      obtain ⟨o, off, xa, xc, ya, yc, rfl, ho, p0, p1, p2, ar⟩ := H.out.at L
      have CT : Hid (∀ W, Below w.heap.size w W → Calls Try.prog 24 #[.agg #[.slice xa (S k).length xc, .slice ya (D k).length yc]] W fun e w' => ∃ xa' xc' ya' yc', e = .returned (.agg #[.slice xa' (S k).length xc', .slice ya' (D k).length yc']) ∧ Arr W.heap.size w'.heap.size w' (.agg #[.slice xa' (S k).length xc', .slice ya' (D k).length yc']) (S k) (D k) ∧ Below W.heap.size W w') := fun W hb => by
        refine (copy_spec (ar.keep hb) (HL.out k).1 (HL.out k).2).mono ?_
        rintro e w' ⟨v', rfl, hA, hb⟩
        obtain ⟨xa', xc', ya', yc', rfl, _⟩ := hA.arrI
        exact ⟨xa', xc', ya', yc', rfl, hA, hb⟩
      have SK : Hid (∀ W, Below w.heap.size w W → W.cell? ⟨o, off + k * 3, none⟩ = some (.bool (B k)) ∧ W.cell? ⟨o, off + k * 3 + 1, none⟩ = some (.slice xa (S k).length xc) ∧ W.cell? ⟨o, off + k * 3 + 2, none⟩ = some (.slice ya (D k).length yc)) := fun W hb => ⟨(hb.cell (p := ⟨o, off + k * 3, none⟩) ho).trans p0, (hb.cell (p := ⟨o, off + k * 3 + 1, none⟩) ho).trans p1, (hb.cell (p := ⟨o, off + k * 3 + 2, none⟩) ho).trans p2⟩
      have BRd : Hid (Below w.heap.size w wr.drew) := BR.out.drew
      clear p0 p1 p2 ar ho
      go_wp2_with fail
      go_region_held3 (fun w' => w'.cell? ⟨o, off + k * 3, none⟩ = some (.bool (B k)) ∧ w'.cell? ⟨o, off + k * 3 + 1, none⟩ = some (.slice xa (S k).length xc) ∧ w'.cell? ⟨o, off + k * 3 + 2, none⟩ = some (.slice ya (D k).length yc))
        ((refine SK.out _ ?_; first | with_reducible exact B3.out | with_reducible exact B2a.out | with_reducible exact B2.out | with_reducible exact BRd.out | with_reducible exact BR.out))
        (first
          | (go_at_call 24; refine (CT.out _ BRd.out).mono ?_; rintro r w2 ⟨xa2, xc2, ya2, yc2, rfl, hA, hb⟩; have HB2 : Below wr.heap.size wr w2 := bTrans ((Below.refl wr.heap.size wr).drew) hb; have B2 : Hid (Below w.heap.size w w2) := bTrans BR.out HB2; have B2a : Hid (Below w.heap.size w (w2.alloc (.cells #[.bool (B k), .slice xa2 (S k).length xc2, .slice ya2 (D k).length yc2] 44))) := bAlloc B2.out _; obtain ⟨a3, c3, w3, hr, hg, _⟩ := GK.out.grow HB2 hA (by omega); have R3 : Hid ((Builtin.append_ #[25, 25] 25 #[.slice a1 k c1, .slice (some ⟨w2.heap.size, 0, none⟩) 1 1]).run Try.prog (w2.alloc (.cells #[.bool (B k), .slice xa2 (S k).length xc2, .slice ya2 (D k).length yc2] 44)) = .ok (.slice a3 (k + 1) c3) w3) := hr; have G3 : Hid (GVars w.heap.size w w3 (.slice a3 (k + 1) c3) (k + 1) B S D) := hg; have B3 : Hid (Below w.heap.size w w3) := hg.below; clear hA hb HB2 hr hg)
          | (refine step_append_ty (by rfl) (.tmp 12) (.tmp 25) 25 25 (by rfl) _ _ _ (by rfl) (by rfl) R3.out ?_))
      all_goals
        clear SK CT
        go_wp2
        go_roundw
        case rel => exact ⟨k + 1, a3, c3, by omega, rfl, by go_num, G3.out⟩
        case measure => simp [intOf]; omega
    · obtain rfl : k = n := by omega
      have VW : Hid (VarsW w.heap.size wr.heap.size wr (.slice a1 k c1) k B S D) := GK.out.varsW
      go_wp2
      go_ret
      exact ⟨_, rfl, VW.out, BR.out⟩
end Go.Proofs.Ytmknleholglhbaa
