/-
  Walks: the program's copiedVars.
-/
import Derived.Test.YtkhcphkdcjimiaaGreatVarsK
namespace Go.Proofs.YtkhcphkdcjimiaaGreat
open Go.RowKit
set_option linter.unusedVariables false
set_option linter.unusedSimpArgs false
theorem cell_off {W : World} {g o : Nat} {u : Value} {p : Addr} (h : p.block ≠ g) : (W.setCell ⟨g, o, none⟩ u).cell? p = W.cell? p := World.cell?_of_block (heap_setCell_other _ _ _ _ h)
set_option maxRecDepth 20000 in
set_option maxHeartbeats 8000000 in
/-- copiedVars. -/
theorem copiedVars_impl {w : World} {v : Value} {n : Nat} {B : Nat → Bool} {S D : Nat → List Int} (h : VarsI w v n B S D) (hl : ∀ i, (S i).length ≤ 1048576 ∧ (D i).length ≤ 1048576) (hn : n ≤ 1048576) :
    Calls Tryz.prog 12 #[v] w fun e w' => ∃ o, e = .returned (.slice (some ⟨o, 0, none⟩) n n) ∧ w.heap.size ≤ o ∧ OwnVars o w'.heap.size n n w' B S D ∧ Below w.heap.size w w' := by
  have H : Hid (VarsI w v n B S D) := h
  have HL : Hid (∀ i, (S i).length ≤ 1048576 ∧ (D i).length ≤ 1048576) := hl
  obtain ⟨a, c, rfl, _⟩ := h
  obtain ⟨w1, r1, t1⟩ := make_varsN n hn w B S D
  have T1 : Hid (OwnVars w.heap.size w1.heap.size n 0 w1 B S D ∧ Below w.heap.size w w1) := by
    obtain ⟨A, x, y, h1, h2, _, h4⟩ := t1
    have := lt_of_heapA h1
    exact ⟨⟨A, x, y, fun _ => w.heap.size + 1, h1, h2, rfl, fun i hi => absurd hi (by omega), this, Nat.le_refl _, fun i hi => absurd hi (by omega)⟩, h4⟩
  clear t1 hl
  go_enter Tryz.func12, Tryz.ntmps12
  go_wp2
  clear r1
  go_loopw [11] (fun i w' => ∃ k : Nat, k ≤ n ∧ i = .int .i64 (k : Int) ∧ OwnVars w.heap.size w'.heap.size n k w' B S D ∧ Below w.heap.size w w') (fun i _ => n - (intOf i).toNat)
  case atStart => exact ⟨0, by omega, rfl, T1.out⟩
  case round =>
    obtain ⟨k, hk, rfl, hT, hB⟩ := hrel
    have TK : Hid (OwnVars w.heap.size wr.heap.size n k wr B S D) := hT
    have BK : Hid (Below w.heap.size w wr) := hB
    clear hT T1 hB
    by_cases hlt : (k : Int) < (n : Int)
    · have L : k < n := by omega
      obtain ⟨o, off, xa, xc, ya, yc, rfl, ho, p0, p1, p2, ar⟩ := (H.out.keep BK.out).at L
      have CT : Hid (∀ W, Below wr.heap.size wr W → Calls Tryz.prog 15 #[.agg #[.slice xa (S k).length xc, .slice ya (D k).length yc]] W fun e w' => ∃ xa' xc' ya' yc', e = .returned (.agg #[.slice xa' (S k).length xc', .slice ya' (D k).length yc']) ∧ Arr W.heap.size w'.heap.size w' (.agg #[.slice xa' (S k).length xc', .slice ya' (D k).length yc']) (S k) (D k) ∧ Below W.heap.size W w') := fun W hb => by
        refine (copyOf_impl (ar.keep hb) (HL.out k).1 (HL.out k).2).mono ?_
        rintro e w' ⟨v', rfl, hA, hb⟩
        obtain ⟨xa', xc', ya', yc', rfl, _⟩ := hA.arrI
        exact ⟨xa', xc', ya', yc', rfl, hA, hb⟩
      have PUT : Hid (∀ (W : World) (x' y' : Value), Below wr.heap.size wr W → Arr wr.heap.size W.heap.size W (.agg #[x', y']) (S k) (D k) → OwnVars w.heap.size W.heap.size n (k + 1) (((W.setCell ⟨w.heap.size, k * 3, none⟩ (.bool (B k))).setCell ⟨w.heap.size, k * 3 + 1, none⟩ x').setCell ⟨w.heap.size, k * 3 + 2, none⟩ y') B S D ∧ Below w.heap.size w (((W.setCell ⟨w.heap.size, k * 3, none⟩ (.bool (B k))).setCell ⟨w.heap.size, k * 3 + 1, none⟩ x').setCell ⟨w.heap.size, k * 3 + 2, none⟩ y')) := fun W x' y' hb hA => ⟨TK.out.put hb L hA, below_setCell (below_setCell (below_setCell (bTrans BK.out hb) (Nat.le_refl _) _ _) (Nat.le_refl _) _ _) (Nat.le_refl _) _ _⟩
      have CE : Hid (∀ W, Below wr.heap.size wr W → ((∃ u, W.cell? ⟨w.heap.size, k * 3, none⟩ = some u) ∧ (∃ u, W.cell? ⟨w.heap.size, k * 3 + 1, none⟩ = some u) ∧ (∃ u, W.cell? ⟨w.heap.size, k * 3 + 2, none⟩ = some u)) ∧ W.frozen? ⟨w.heap.size, k * 3, none⟩ = false ∧ W.frozen? ⟨w.heap.size, k * 3 + 1, none⟩ = false ∧ W.frozen? ⟨w.heap.size, k * 3 + 2, none⟩ = false) := fun W hb => (TK.out.keep hb).cells L
      clear ar ho
      generalize B k = bk at *
      go_wp2_with fail
      have hnx := heap_alloc_new wr (.cells #[.bool bk, .slice xa (S k).length xc, .slice ya (D k).length yc] 41)
      have BW : Hid (Below wr.heap.size wr (wr.alloc (.cells #[.bool bk, .slice xa (S k).length xc, .slice ya (D k).length yc] 41))) := bAlloc (Below.refl _ _) _
      generalize wr.alloc (.cells #[.bool bk, .slice xa (S k).length xc, .slice ya (D k).length yc] 41) = Wb at *
      have SK : Hid (∀ W, Below Wb.heap.size Wb W → W.cell? ⟨wr.heap.size, 0, none⟩ = some (.bool bk) ∧ W.cell? ⟨wr.heap.size, 1, none⟩ = some (.slice xa (S k).length xc) ∧ W.cell? ⟨wr.heap.size, 2, none⟩ = some (.slice ya (D k).length yc)) := fun W hb => by
        have e : W.heap[wr.heap.size]? = _ := (hb.block wr.heap.size (lt_of_heapA hnx)).trans hnx
        exact ⟨cell_at e rfl, cell_at e rfl, cell_at e rfl⟩
      have SS : Hid (∀ W (x y z : Value), Below Wb.heap.size Wb W → (((W.setCell ⟨w.heap.size, k * 3, none⟩ x).setCell ⟨w.heap.size, k * 3 + 1, none⟩ y).setCell ⟨w.heap.size, k * 3 + 2, none⟩ z).cell? ⟨wr.heap.size, 0, none⟩ = some (.bool bk) ∧ (((W.setCell ⟨w.heap.size, k * 3, none⟩ x).setCell ⟨w.heap.size, k * 3 + 1, none⟩ y).setCell ⟨w.heap.size, k * 3 + 2, none⟩ z).cell? ⟨wr.heap.size, 1, none⟩ = some (.slice xa (S k).length xc) ∧ (((W.setCell ⟨w.heap.size, k * 3, none⟩ x).setCell ⟨w.heap.size, k * 3 + 1, none⟩ y).setCell ⟨w.heap.size, k * 3 + 2, none⟩ z).cell? ⟨wr.heap.size, 2, none⟩ = some (.slice ya (D k).length yc)) := fun W x y z hb => by
        have ne : wr.heap.size ≠ w.heap.size := by have := TK.out.lt; omega
        rw [cell_off ne, cell_off ne, cell_off ne, cell_off ne, cell_off ne, cell_off ne, cell_off ne, cell_off ne, cell_off ne]
        exact SK.out W hb
      clear hnx
      go_region_held3 (fun w' => w'.cell? ⟨wr.heap.size, 0, none⟩ = some (.bool bk) ∧ w'.cell? ⟨wr.heap.size, 1, none⟩ = some (.slice xa (S k).length xc) ∧ w'.cell? ⟨wr.heap.size, 2, none⟩ = some (.slice ya (D k).length yc))
        (first | (with_reducible refine SS.out _ _ _ _ ?_; with_reducible exact HB2.out) | (refine SK.out _ ?_; (repeat first | with_reducible exact HB2.out | with_reducible exact Below.refl _ _ | with_reducible refine Below.drew ?_)))
        ((go_at_call 15; refine (CT.out _ (bTrans BW.out ((Below.refl Wb.heap.size Wb).drew))).mono ?_; rintro r w2 ⟨xa2, xc2, ya2, yc2, rfl, hA, hb⟩; have HB2 : Hid (Below Wb.heap.size Wb w2) := bTrans ((Below.refl Wb.heap.size Wb).drew) hb; have HW2 : Hid (Below wr.heap.size wr w2) := bTrans BW.out HB2.out; have HA2 : Hid (Arr wr.heap.size w2.heap.size w2 (.agg #[.slice xa2 (S k).length xc2, .slice ya2 (D k).length yc2]) (S k) (D k)) := hA.mono (Nat.le_trans BW.out.size (by simp)) (Nat.le_refl _); obtain ⟨⟨⟨u0, c0⟩, ⟨u1, c1⟩, ⟨u2, c2⟩⟩, f0, f1, f2⟩ := CE.out w2 HW2.out; clear hA hb))
      all_goals
        have T4 : Hid (OwnVars w.heap.size w2.heap.size n (k + 1) (((w2.setCell ⟨w.heap.size, k * 3, none⟩ (.bool bk)).setCell ⟨w.heap.size, k * 3 + 1, none⟩ (.slice xa2 (S k).length xc2)).setCell ⟨w.heap.size, k * 3 + 2, none⟩ (.slice ya2 (D k).length yc2)) B S D) := (PUT.out w2 _ _ HW2.out HA2.out).1
        have B4 : Hid (Below w.heap.size w (((w2.setCell ⟨w.heap.size, k * 3, none⟩ (.bool bk)).setCell ⟨w.heap.size, k * 3 + 1, none⟩ (.slice xa2 (S k).length xc2)).setCell ⟨w.heap.size, k * 3 + 2, none⟩ (.slice ya2 (D k).length yc2))) := (PUT.out w2 _ _ HW2.out HA2.out).2
        clear SS SK CT CE PUT
        go_wp2
        go_roundw
        case rel => exact ⟨k + 1, by omega, by go_num, by simpa only [size_setCell] using T4.out, B4.out⟩
        case measure => simp [intOf]; omega
    · obtain rfl : k = n := by omega
      go_wp2
      go_ret
      exact ⟨_, rfl, Nat.le_refl _, TK.out, BK.out⟩
end Go.Proofs.YtkhcphkdcjimiaaGreat
