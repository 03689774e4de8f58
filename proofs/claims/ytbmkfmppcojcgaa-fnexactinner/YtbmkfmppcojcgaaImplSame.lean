/-
  The program's contract of ShapeSame.
-/
import Derived.Test.YtbmkfmppcojcgaaImplAlike
namespace Go.Proofs.Ytbmkfmppcojcgaa
open Go.RowKit
set_option linter.unusedVariables false
theorem ext_eq {l m : List Int} {n n' : Nat} {x y z x' y' z' : Int} (h1 : Ext l n x y z) (h2 : Ext m n' x' y' z') (k1 : l.length ≤ 3) (k2 : m.length ≤ 3) (e : (n : Int) = n' ∧ x = x' ∧ y = y' ∧ z = z') : l = m := by
  obtain ⟨rfl, rfl, rfl, rfl⟩ := h1
  obtain ⟨rfl, rfl, rfl, rfl⟩ := h2
  obtain ⟨e0, e1, e2, e3⟩ := e
  have e0 : l.length = m.length := by omega
  apply List.ext_getElem e0
  intro i a b
  have : i = 0 ∨ i = 1 ∨ i = 2 := by omega
  rcases this with rfl | rfl | rfl
  · simpa [a, b] using e1
  · simpa [a, b] using e2
  · simpa [a, b] using e3
theorem ext_wf {l : List Int} {n : Nat} {x y z : Int} (hs : 0 ≤ sizeV l) (he : Ext l n x y z) : (Lit.int .i64 (n : Int)).wf = true ∧ (Lit.int .i64 x).wf = true ∧ (Lit.int .i64 y).wf = true ∧ (Lit.int .i64 z).wf = true := by
  obtain ⟨rfl, rfl, rfl, rfl⟩ := he
  obtain ⟨k1, k2, k3, k4⟩ := sizeV_ok hs
  have d : ∀ k, 0 ≤ l.getD k 0 ∧ l.getD k 0 ≤ 300 := by
    intro k
    by_cases hk : k < l.length
    · rw [List.all_eq_true] at k2
      exact dimOk_bd (k2 _ (by simp [hk]))
    · simp [List.getD, List.getElem?_eq_none (Nat.le_of_not_lt hk)]
  have d0 := d 0
  have d1 := d 1
  have d2 := d 2
  exact ⟨WalkArith.wf_i64 (by omega), WalkArith.wf_i64 (by omega), WalkArith.wf_i64 (by omega), WalkArith.wf_i64 (by omega)⟩
/-- Whether two shapes by value are one. -/
theorem alike_ext {l m : List Int} {n n' : Nat} {x y z x' y' z' : Int} (hs : 0 ≤ sizeV l) (ht : 0 ≤ sizeV m) (h1 : Ext l n x y z) (h2 : Ext m n' x' y' z') (g : Nat) (w : World) (hg : g < w.heap.size)
    (c0 : w.cell? ⟨g, 0, none⟩ = some (.int .i64 n)) (c1 : w.cell? ⟨g, 1, none⟩ = some (.int .i64 x)) (c2 : w.cell? ⟨g, 2, none⟩ = some (.int .i64 y)) (c3 : w.cell? ⟨g, 3, none⟩ = some (.int .i64 z))
    (c4 : w.cell? ⟨g, 4, none⟩ = some (.int .i64 n')) (c5 : w.cell? ⟨g, 5, none⟩ = some (.int .i64 x')) (c6 : w.cell? ⟨g, 6, none⟩ = some (.int .i64 y')) (c7 : w.cell? ⟨g, 7, none⟩ = some (.int .i64 z')) :
    Calls Try.prog 121 #[.slice (some ⟨g, 0, none⟩) 2 2] w fun e w' => e = .returned (.bool (decide (l = m))) ∧ Below w.heap.size w w' := by
  obtain ⟨a0, a1, a2, a3⟩ := ext_wf hs h1
  obtain ⟨b0, b1, b2, b3⟩ := ext_wf ht h2
  obtain ⟨l1, k1⟩ := keyE a0 a1 a2 a3
  obtain ⟨l2, k2⟩ := keyE b0 b1 b2 b3
  by_cases e : (n : Int) = n' ∧ x = x' ∧ y = y' ∧ z = z'
  · have q := ext_eq h1 h2 (sizeV_ok hs).1 (sizeV_ok ht).1 e
    obtain ⟨e0, rfl, rfl, rfl⟩ := e
    rw [show decide (l = m) = true by simpa using q]
    rw [← e0] at c4
    exact alike_one n x y z g w l1 k1 hg c0 c1 c2 c3 c4 c5 c6 c7
  · have q : ¬ l = m := by
      rintro rfl
      obtain ⟨rfl, rfl, rfl, rfl⟩ := h1
      obtain ⟨rfl, rfl, rfl, rfl⟩ := h2
      exact e ⟨rfl, rfl, rfl, rfl⟩
    rw [show decide (l = m) = false by simpa using q]
    exact alike_two n x y z n' x' y' z' g w l1 l2 k1 k2 hg c0 c1 c2 c3 c4 c5 c6 c7 (by
      intro h
      simp at h
      exact e ⟨by omega, h.2⟩)
set_option maxRecDepth 20000 in
set_option maxHeartbeats 2000000 in
/-- ShapeSame, whatever lists it is given. -/
theorem same_impl {l m : List Int} {a b : Option Addr} {w : World} (c d : Nat) (h1 : Ints w a l) (h2 : Ints w b m) :
    Calls Try.prog 110 #[.slice a l.length c, .slice b m.length d] w fun e w' => e = .returned (.bool (decide (0 ≤ sizeV l) && decide (l = m))) ∧ Below w.heap.size w w' := by
  have H1 : Hid (Ints w a l) := h1
  have H2 : Hid (Ints w b m) := h2
  clear h1 h2
  by_cases hs : 0 ≤ sizeV l
  · have hs' : decide (0 ≤ sizeV l) = true := by simpa using hs
    have HS : Hid (0 ≤ sizeV l) := hs
    by_cases ht : 0 ≤ sizeV m
    · have ht' : decide (0 ≤ sizeV m) = true := by simpa using ht
      have HT : Hid (0 ≤ sizeV m) := ht
      clear hs ht
      generalize hq : decide (l = m) = q
      have HQ : Hid (decide (l = m) = q) := hq
      clear hq
      go_enter Try.func110, Try.ntmps110
      go_wp2_with fail
      refine (ext_impl _ H1.out).mono ?_
      rintro e w1 ⟨n, x, y, z, rfl, he, hb⟩
      have HE : Hid (Ext l n x y z) := he HS.out
      have HB : Hid (Below w.heap.size w w1) := hb
      clear he hb
      go_wp2_with fail
      refine (ext_impl _ ((H2.out.keep HB.out).alloc _)).mono ?_
      rintro e w2 ⟨n', x', y', z', rfl, he, hb⟩
      have HE2 : Hid (Ext m n' x' y' z') := he HT.out
      have HB2 : Hid (Below w.heap.size w w2) := bTrans (bAlloc HB.out _) hb
      have r0 : ∀ o : Obj, (w2.alloc o).cell? ⟨w1.heap.size, 0, none⟩ = some (.int .i64 n) := fun o => by rw [(bAlloc hb o).cell (p := ⟨w1.heap.size, 0, none⟩) (by simp)]; exact cell_new _ _ _ rfl
      have r1 : ∀ o : Obj, (w2.alloc o).cell? ⟨w1.heap.size, 1, none⟩ = some (.int .i64 x) := fun o => by rw [(bAlloc hb o).cell (p := ⟨w1.heap.size, 1, none⟩) (by simp)]; exact cell_new _ _ _ rfl
      have r2 : ∀ o : Obj, (w2.alloc o).cell? ⟨w1.heap.size, 2, none⟩ = some (.int .i64 y) := fun o => by rw [(bAlloc hb o).cell (p := ⟨w1.heap.size, 2, none⟩) (by simp)]; exact cell_new _ _ _ rfl
      have r3 : ∀ o : Obj, (w2.alloc o).cell? ⟨w1.heap.size, 3, none⟩ = some (.int .i64 z) := fun o => by rw [(bAlloc hb o).cell (p := ⟨w1.heap.size, 3, none⟩) (by simp)]; exact cell_new _ _ _ rfl
      clear he hb
      go_wp2_with fail
      refine (alike_ext HS.out HT.out HE.out HE2.out (w2.heap.size + 1) _ (by simp) (by simp) (by simp) (by simp) (by simp) (by simp) (by simp) (by simp) (by simp)).mono ?_
      rintro e w3 ⟨rfl, hb⟩
      have HB3 : Hid (Below w.heap.size w w3) := bTrans (bAlloc (bAlloc HB2.out _) _) hb
      clear hb
      rw [HQ.out]
      go_wp2
      go_ret
      exact ⟨by simp [hs'], HB3.out⟩
    · have ht' : decide (0 ≤ sizeV m) = false := by simpa using ht
      have hne : l ≠ m := fun e => ht (e ▸ hs)
      have HN : Hid (l ≠ m) := hne
      clear hs ht hne
      go_enter Try.func110, Try.ntmps110
      go_wp2_with fail
      refine (ext_impl _ H1.out).mono ?_
      rintro e w1 ⟨n, x, y, z, rfl, he, hb⟩
      have HB : Hid (Below w.heap.size w w1) := hb
      clear he hb
      go_wp2_with fail
      refine (ext_impl _ ((H2.out.keep HB.out).alloc _)).mono ?_
      rintro e w2 ⟨n', x', y', z', rfl, he, hb⟩
      have HB2 : Hid (Below w.heap.size w w2) := bTrans (bAlloc HB.out _) hb
      clear he hb
      go_wp2
      go_ret
      exact ⟨by simp [HN.out], bAlloc HB2.out _⟩
  · have hs' : decide (0 ≤ sizeV l) = false := by simpa using hs
    clear hs
    go_enter Try.func110, Try.ntmps110
    go_wp2_with fail
    refine (ext_impl _ H1.out).mono ?_
    rintro e w1 ⟨n, x, y, z, rfl, he, hb⟩
    have HB : Hid (Below w.heap.size w w1) := hb
    clear he hb
    go_wp2_with fail
    refine (ext_impl _ ((H2.out.keep HB.out).alloc _)).mono ?_
    rintro e w2 ⟨n', x', y', z', rfl, he, hb⟩
    have HB2 : Hid (Below w.heap.size w w2) := bTrans (bAlloc HB.out _) hb
    clear he hb
    generalize decide (0 ≤ sizeV m) = q
    go_wp2
    go_ret
    exact ⟨by simp [hs'], bAlloc HB2.out _⟩
end Go.Proofs.Ytbmkfmppcojcgaa
