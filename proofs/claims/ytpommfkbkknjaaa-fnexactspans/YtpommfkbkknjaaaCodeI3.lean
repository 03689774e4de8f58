/-
  Walks: the program's takenFromStack and instrOk.
-/
import Derived.Test.YtpommfkbkknjaaaCodeI2
import Derived.Shelf.Abstract
namespace Go.Proofs.Ytpommfkbkknjaaa
open Go.RowKit Go.Shelf
set_option linter.unusedVariables false
set_option linter.unusedSimpArgs false
section
variable {e1 e2 e3 e4 : Int} {l : List Int} {w : World} {xa : Option Addr} {xc : Nat}
set_option maxRecDepth 20000 in
set_option maxHeartbeats 8000000 in
theorem taken1_impl {n : Nat} : Calls Try.prog 32 #[.agg #[.int .i64 1, .int .i64 e1, .int .i64 e2, .int .i64 e3, .int .i64 e4, .slice xa n xc]] w fun r w' => r = .returned (.int .i64 0) ∧ Below w.heap.size w w' := by
  have i0 := ixOp1
  have i1 := fldOp0
  have i2 := fldOp1
  go_enter Try.func32, Try.ntmps32
  go_wp2_with fail
  generalize hW : w.alloc (.cells #[.int .i64 1, .int .i64 e1, .int .i64 e2, .int .i64 e3, .int .i64 e4, .slice xa n xc] 44) = W0
  have B0 : Hid (Below w.heap.size w W0) := by rw [← hW]; exact one_below
  have LT : Hid (w.heap.size < W0.heap.size) := by rw [← hW]; show _ < _; simp
  have hn := heap_alloc_new w (.cells #[.int .i64 1, .int .i64 e1, .int .i64 e2, .int .i64 e3, .int .i64 e4, .slice xa n xc] 44)
  rw [hW] at hn
  have c0 : W0.cell? ⟨w.heap.size, 0, none⟩ = some (.int .i64 1) := cell_at hn rfl
  have c1 : W0.cell? ⟨w.heap.size, 1, none⟩ = some (.int .i64 e1) := cell_at hn rfl
  have c2 : W0.cell? ⟨w.heap.size, 2, none⟩ = some (.int .i64 e2) := cell_at hn rfl
  have c3 : W0.cell? ⟨w.heap.size, 3, none⟩ = some (.int .i64 e3) := cell_at hn rfl
  have c4 : W0.cell? ⟨w.heap.size, 4, none⟩ = some (.int .i64 e4) := cell_at hn rfl
  have c5 : W0.cell? ⟨w.heap.size, 5, none⟩ = some (.slice xa n xc) := cell_at hn rfl
  have SK : Hid (∀ W, Below W0.heap.size W0 W → W.cell? ⟨w.heap.size, 0, none⟩ = some (.int .i64 1) ∧ W.cell? ⟨w.heap.size, 1, none⟩ = some (.int .i64 e1) ∧ W.cell? ⟨w.heap.size, 2, none⟩ = some (.int .i64 e2) ∧ W.cell? ⟨w.heap.size, 3, none⟩ = some (.int .i64 e3) ∧ W.cell? ⟨w.heap.size, 4, none⟩ = some (.int .i64 e4) ∧ W.cell? ⟨w.heap.size, 5, none⟩ = some (.slice xa n xc)) := fun W hb => ⟨(hb.cell (p := ⟨w.heap.size, 0, none⟩) LT.out).trans c0, (hb.cell (p := ⟨w.heap.size, 1, none⟩) LT.out).trans c1, (hb.cell (p := ⟨w.heap.size, 2, none⟩) LT.out).trans c2, (hb.cell (p := ⟨w.heap.size, 3, none⟩) LT.out).trans c3, (hb.cell (p := ⟨w.heap.size, 4, none⟩) LT.out).trans c4, (hb.cell (p := ⟨w.heap.size, 5, none⟩) LT.out).trans c5⟩
  clear hW hn
  go_region_held3 (fun w' => w'.cell? ⟨w.heap.size, 0, none⟩ = some (.int .i64 1) ∧ w'.cell? ⟨w.heap.size, 1, none⟩ = some (.int .i64 e1) ∧ w'.cell? ⟨w.heap.size, 2, none⟩ = some (.int .i64 e2) ∧ w'.cell? ⟨w.heap.size, 3, none⟩ = some (.int .i64 e3) ∧ w'.cell? ⟨w.heap.size, 4, none⟩ = some (.int .i64 e4) ∧ w'.cell? ⟨w.heap.size, 5, none⟩ = some (.slice xa n xc))
    ((refine SK.out _ ?_; (repeat first | with_reducible exact HB3.out | with_reducible exact HB2.out | with_reducible exact Below.refl _ _ | with_reducible refine Below.drew ?_)))
    ((go_at_call 42; refine (opRules_impl _).mono ?_; rintro r w2 ⟨rfl, hb⟩; have HB2 : Hid (Below W0.heap.size W0 w2) := bTrans ((Below.refl W0.heap.size W0).drew) hb; clear hb))
  all_goals
    go_wp2
    go_ret
    exact ⟨rfl, bTrans B0.out HB2.out⟩
set_option maxRecDepth 20000 in
set_option maxHeartbeats 8000000 in
theorem taken2_impl {n : Nat} : Calls Try.prog 32 #[.agg #[.int .i64 2, .int .i64 e1, .int .i64 e2, .int .i64 e3, .int .i64 e4, .slice xa n xc]] w fun r w' => r = .returned (.int .i64 0) ∧ Below w.heap.size w w' := by
  have i0 := ixOp2
  have i1 := fldOp0
  have i2 := fldOp1
  go_enter Try.func32, Try.ntmps32
  go_wp2_with fail
  generalize hW : w.alloc (.cells #[.int .i64 2, .int .i64 e1, .int .i64 e2, .int .i64 e3, .int .i64 e4, .slice xa n xc] 44) = W0
  have B0 : Hid (Below w.heap.size w W0) := by rw [← hW]; exact one_below
  have LT : Hid (w.heap.size < W0.heap.size) := by rw [← hW]; show _ < _; simp
  have hn := heap_alloc_new w (.cells #[.int .i64 2, .int .i64 e1, .int .i64 e2, .int .i64 e3, .int .i64 e4, .slice xa n xc] 44)
  rw [hW] at hn
  have c0 : W0.cell? ⟨w.heap.size, 0, none⟩ = some (.int .i64 2) := cell_at hn rfl
  have c1 : W0.cell? ⟨w.heap.size, 1, none⟩ = some (.int .i64 e1) := cell_at hn rfl
  have c2 : W0.cell? ⟨w.heap.size, 2, none⟩ = some (.int .i64 e2) := cell_at hn rfl
  have c3 : W0.cell? ⟨w.heap.size, 3, none⟩ = some (.int .i64 e3) := cell_at hn rfl
  have c4 : W0.cell? ⟨w.heap.size, 4, none⟩ = some (.int .i64 e4) := cell_at hn rfl
  have c5 : W0.cell? ⟨w.heap.size, 5, none⟩ = some (.slice xa n xc) := cell_at hn rfl
  have SK : Hid (∀ W, Below W0.heap.size W0 W → W.cell? ⟨w.heap.size, 0, none⟩ = some (.int .i64 2) ∧ W.cell? ⟨w.heap.size, 1, none⟩ = some (.int .i64 e1) ∧ W.cell? ⟨w.heap.size, 2, none⟩ = some (.int .i64 e2) ∧ W.cell? ⟨w.heap.size, 3, none⟩ = some (.int .i64 e3) ∧ W.cell? ⟨w.heap.size, 4, none⟩ = some (.int .i64 e4) ∧ W.cell? ⟨w.heap.size, 5, none⟩ = some (.slice xa n xc)) := fun W hb => ⟨(hb.cell (p := ⟨w.heap.size, 0, none⟩) LT.out).trans c0, (hb.cell (p := ⟨w.heap.size, 1, none⟩) LT.out).trans c1, (hb.cell (p := ⟨w.heap.size, 2, none⟩) LT.out).trans c2, (hb.cell (p := ⟨w.heap.size, 3, none⟩) LT.out).trans c3, (hb.cell (p := ⟨w.heap.size, 4, none⟩) LT.out).trans c4, (hb.cell (p := ⟨w.heap.size, 5, none⟩) LT.out).trans c5⟩
  clear hW hn
  go_region_held3 (fun w' => w'.cell? ⟨w.heap.size, 0, none⟩ = some (.int .i64 2) ∧ w'.cell? ⟨w.heap.size, 1, none⟩ = some (.int .i64 e1) ∧ w'.cell? ⟨w.heap.size, 2, none⟩ = some (.int .i64 e2) ∧ w'.cell? ⟨w.heap.size, 3, none⟩ = some (.int .i64 e3) ∧ w'.cell? ⟨w.heap.size, 4, none⟩ = some (.int .i64 e4) ∧ w'.cell? ⟨w.heap.size, 5, none⟩ = some (.slice xa n xc))
    ((refine SK.out _ ?_; (repeat first | with_reducible exact HB3.out | with_reducible exact HB2.out | with_reducible exact Below.refl _ _ | with_reducible refine Below.drew ?_)))
    ((go_at_call 42; refine (opRules_impl _).mono ?_; rintro r w2 ⟨rfl, hb⟩; have HB2 : Hid (Below W0.heap.size W0 w2) := bTrans ((Below.refl W0.heap.size W0).drew) hb; clear hb))
  all_goals
    go_wp2
    go_ret
    exact ⟨rfl, bTrans B0.out HB2.out⟩
set_option maxRecDepth 20000 in
set_option maxHeartbeats 8000000 in
theorem taken3_impl {n : Nat} : Calls Try.prog 32 #[.agg #[.int .i64 3, .int .i64 e1, .int .i64 e2, .int .i64 e3, .int .i64 e4, .slice xa n xc]] w fun r w' => r = .returned (.int .i64 1) ∧ Below w.heap.size w w' := by
  have i0 := ixOp3
  have i1 := fldOp0
  have i2 := fldOp1
  go_enter Try.func32, Try.ntmps32
  go_wp2_with fail
  generalize hW : w.alloc (.cells #[.int .i64 3, .int .i64 e1, .int .i64 e2, .int .i64 e3, .int .i64 e4, .slice xa n xc] 44) = W0
  have B0 : Hid (Below w.heap.size w W0) := by rw [← hW]; exact one_below
  have LT : Hid (w.heap.size < W0.heap.size) := by rw [← hW]; show _ < _; simp
  have hn := heap_alloc_new w (.cells #[.int .i64 3, .int .i64 e1, .int .i64 e2, .int .i64 e3, .int .i64 e4, .slice xa n xc] 44)
  rw [hW] at hn
  have c0 : W0.cell? ⟨w.heap.size, 0, none⟩ = some (.int .i64 3) := cell_at hn rfl
  have c1 : W0.cell? ⟨w.heap.size, 1, none⟩ = some (.int .i64 e1) := cell_at hn rfl
  have c2 : W0.cell? ⟨w.heap.size, 2, none⟩ = some (.int .i64 e2) := cell_at hn rfl
  have c3 : W0.cell? ⟨w.heap.size, 3, none⟩ = some (.int .i64 e3) := cell_at hn rfl
  have c4 : W0.cell? ⟨w.heap.size, 4, none⟩ = some (.int .i64 e4) := cell_at hn rfl
  have c5 : W0.cell? ⟨w.heap.size, 5, none⟩ = some (.slice xa n xc) := cell_at hn rfl
  have SK : Hid (∀ W, Below W0.heap.size W0 W → W.cell? ⟨w.heap.size, 0, none⟩ = some (.int .i64 3) ∧ W.cell? ⟨w.heap.size, 1, none⟩ = some (.int .i64 e1) ∧ W.cell? ⟨w.heap.size, 2, none⟩ = some (.int .i64 e2) ∧ W.cell? ⟨w.heap.size, 3, none⟩ = some (.int .i64 e3) ∧ W.cell? ⟨w.heap.size, 4, none⟩ = some (.int .i64 e4) ∧ W.cell? ⟨w.heap.size, 5, none⟩ = some (.slice xa n xc)) := fun W hb => ⟨(hb.cell (p := ⟨w.heap.size, 0, none⟩) LT.out).trans c0, (hb.cell (p := ⟨w.heap.size, 1, none⟩) LT.out).trans c1, (hb.cell (p := ⟨w.heap.size, 2, none⟩) LT.out).trans c2, (hb.cell (p := ⟨w.heap.size, 3, none⟩) LT.out).trans c3, (hb.cell (p := ⟨w.heap.size, 4, none⟩) LT.out).trans c4, (hb.cell (p := ⟨w.heap.size, 5, none⟩) LT.out).trans c5⟩
  clear hW hn
  go_region_held3 (fun w' => w'.cell? ⟨w.heap.size, 0, none⟩ = some (.int .i64 3) ∧ w'.cell? ⟨w.heap.size, 1, none⟩ = some (.int .i64 e1) ∧ w'.cell? ⟨w.heap.size, 2, none⟩ = some (.int .i64 e2) ∧ w'.cell? ⟨w.heap.size, 3, none⟩ = some (.int .i64 e3) ∧ w'.cell? ⟨w.heap.size, 4, none⟩ = some (.int .i64 e4) ∧ w'.cell? ⟨w.heap.size, 5, none⟩ = some (.slice xa n xc))
    ((refine SK.out _ ?_; (repeat first | with_reducible exact HB3.out | with_reducible exact HB2.out | with_reducible exact Below.refl _ _ | with_reducible refine Below.drew ?_)))
    ((go_at_call 42; refine (opRules_impl _).mono ?_; rintro r w2 ⟨rfl, hb⟩; have HB2 : Hid (Below W0.heap.size W0 w2) := bTrans ((Below.refl W0.heap.size W0).drew) hb; clear hb))
  all_goals
    go_wp2
    go_ret
    exact ⟨rfl, bTrans B0.out HB2.out⟩
set_option maxRecDepth 20000 in
set_option maxHeartbeats 8000000 in
theorem taken4_impl {n : Nat} : Calls Try.prog 32 #[.agg #[.int .i64 4, .int .i64 e1, .int .i64 e2, .int .i64 e3, .int .i64 e4, .slice xa n xc]] w fun r w' => r = .returned (.int .i64 1) ∧ Below w.heap.size w w' := by
  have i0 := ixOp4
  have i1 := fldOp0
  have i2 := fldOp1
  go_enter Try.func32, Try.ntmps32
  go_wp2_with fail
  generalize hW : w.alloc (.cells #[.int .i64 4, .int .i64 e1, .int .i64 e2, .int .i64 e3, .int .i64 e4, .slice xa n xc] 44) = W0
  have B0 : Hid (Below w.heap.size w W0) := by rw [← hW]; exact one_below
  have LT : Hid (w.heap.size < W0.heap.size) := by rw [← hW]; show _ < _; simp
  have hn := heap_alloc_new w (.cells #[.int .i64 4, .int .i64 e1, .int .i64 e2, .int .i64 e3, .int .i64 e4, .slice xa n xc] 44)
  rw [hW] at hn
  have c0 : W0.cell? ⟨w.heap.size, 0, none⟩ = some (.int .i64 4) := cell_at hn rfl
  have c1 : W0.cell? ⟨w.heap.size, 1, none⟩ = some (.int .i64 e1) := cell_at hn rfl
  have c2 : W0.cell? ⟨w.heap.size, 2, none⟩ = some (.int .i64 e2) := cell_at hn rfl
  have c3 : W0.cell? ⟨w.heap.size, 3, none⟩ = some (.int .i64 e3) := cell_at hn rfl
  have c4 : W0.cell? ⟨w.heap.size, 4, none⟩ = some (.int .i64 e4) := cell_at hn rfl
  have c5 : W0.cell? ⟨w.heap.size, 5, none⟩ = some (.slice xa n xc) := cell_at hn rfl
  have SK : Hid (∀ W, Below W0.heap.size W0 W → W.cell? ⟨w.heap.size, 0, none⟩ = some (.int .i64 4) ∧ W.cell? ⟨w.heap.size, 1, none⟩ = some (.int .i64 e1) ∧ W.cell? ⟨w.heap.size, 2, none⟩ = some (.int .i64 e2) ∧ W.cell? ⟨w.heap.size, 3, none⟩ = some (.int .i64 e3) ∧ W.cell? ⟨w.heap.size, 4, none⟩ = some (.int .i64 e4) ∧ W.cell? ⟨w.heap.size, 5, none⟩ = some (.slice xa n xc)) := fun W hb => ⟨(hb.cell (p := ⟨w.heap.size, 0, none⟩) LT.out).trans c0, (hb.cell (p := ⟨w.heap.size, 1, none⟩) LT.out).trans c1, (hb.cell (p := ⟨w.heap.size, 2, none⟩) LT.out).trans c2, (hb.cell (p := ⟨w.heap.size, 3, none⟩) LT.out).trans c3, (hb.cell (p := ⟨w.heap.size, 4, none⟩) LT.out).trans c4, (hb.cell (p := ⟨w.heap.size, 5, none⟩) LT.out).trans c5⟩
  clear hW hn
  go_region_held3 (fun w' => w'.cell? ⟨w.heap.size, 0, none⟩ = some (.int .i64 4) ∧ w'.cell? ⟨w.heap.size, 1, none⟩ = some (.int .i64 e1) ∧ w'.cell? ⟨w.heap.size, 2, none⟩ = some (.int .i64 e2) ∧ w'.cell? ⟨w.heap.size, 3, none⟩ = some (.int .i64 e3) ∧ w'.cell? ⟨w.heap.size, 4, none⟩ = some (.int .i64 e4) ∧ w'.cell? ⟨w.heap.size, 5, none⟩ = some (.slice xa n xc))
    ((refine SK.out _ ?_; (repeat first | with_reducible exact HB3.out | with_reducible exact HB2.out | with_reducible exact Below.refl _ _ | with_reducible refine Below.drew ?_)))
    ((go_at_call 42; refine (opRules_impl _).mono ?_; rintro r w2 ⟨rfl, hb⟩; have HB2 : Hid (Below W0.heap.size W0 w2) := bTrans ((Below.refl W0.heap.size W0).drew) hb; clear hb))
  all_goals
    go_wp2
    go_ret
    exact ⟨rfl, bTrans B0.out HB2.out⟩
set_option maxRecDepth 20000 in
set_option maxHeartbeats 8000000 in
theorem taken5_impl {n : Nat} : Calls Try.prog 32 #[.agg #[.int .i64 5, .int .i64 e1, .int .i64 e2, .int .i64 e3, .int .i64 e4, .slice xa n xc]] w fun r w' => r = .returned (.int .i64 2) ∧ Below w.heap.size w w' := by
  have i0 := ixOp5
  have i1 := fldOp0
  have i2 := fldOp1
  go_enter Try.func32, Try.ntmps32
  go_wp2_with fail
  generalize hW : w.alloc (.cells #[.int .i64 5, .int .i64 e1, .int .i64 e2, .int .i64 e3, .int .i64 e4, .slice xa n xc] 44) = W0
  have B0 : Hid (Below w.heap.size w W0) := by rw [← hW]; exact one_below
  have LT : Hid (w.heap.size < W0.heap.size) := by rw [← hW]; show _ < _; simp
  have hn := heap_alloc_new w (.cells #[.int .i64 5, .int .i64 e1, .int .i64 e2, .int .i64 e3, .int .i64 e4, .slice xa n xc] 44)
  rw [hW] at hn
  have c0 : W0.cell? ⟨w.heap.size, 0, none⟩ = some (.int .i64 5) := cell_at hn rfl
  have c1 : W0.cell? ⟨w.heap.size, 1, none⟩ = some (.int .i64 e1) := cell_at hn rfl
  have c2 : W0.cell? ⟨w.heap.size, 2, none⟩ = some (.int .i64 e2) := cell_at hn rfl
  have c3 : W0.cell? ⟨w.heap.size, 3, none⟩ = some (.int .i64 e3) := cell_at hn rfl
  have c4 : W0.cell? ⟨w.heap.size, 4, none⟩ = some (.int .i64 e4) := cell_at hn rfl
  have c5 : W0.cell? ⟨w.heap.size, 5, none⟩ = some (.slice xa n xc) := cell_at hn rfl
  have SK : Hid (∀ W, Below W0.heap.size W0 W → W.cell? ⟨w.heap.size, 0, none⟩ = some (.int .i64 5) ∧ W.cell? ⟨w.heap.size, 1, none⟩ = some (.int .i64 e1) ∧ W.cell? ⟨w.heap.size, 2, none⟩ = some (.int .i64 e2) ∧ W.cell? ⟨w.heap.size, 3, none⟩ = some (.int .i64 e3) ∧ W.cell? ⟨w.heap.size, 4, none⟩ = some (.int .i64 e4) ∧ W.cell? ⟨w.heap.size, 5, none⟩ = some (.slice xa n xc)) := fun W hb => ⟨(hb.cell (p := ⟨w.heap.size, 0, none⟩) LT.out).trans c0, (hb.cell (p := ⟨w.heap.size, 1, none⟩) LT.out).trans c1, (hb.cell (p := ⟨w.heap.size, 2, none⟩) LT.out).trans c2, (hb.cell (p := ⟨w.heap.size, 3, none⟩) LT.out).trans c3, (hb.cell (p := ⟨w.heap.size, 4, none⟩) LT.out).trans c4, (hb.cell (p := ⟨w.heap.size, 5, none⟩) LT.out).trans c5⟩
  clear hW hn
  go_region_held3 (fun w' => w'.cell? ⟨w.heap.size, 0, none⟩ = some (.int .i64 5) ∧ w'.cell? ⟨w.heap.size, 1, none⟩ = some (.int .i64 e1) ∧ w'.cell? ⟨w.heap.size, 2, none⟩ = some (.int .i64 e2) ∧ w'.cell? ⟨w.heap.size, 3, none⟩ = some (.int .i64 e3) ∧ w'.cell? ⟨w.heap.size, 4, none⟩ = some (.int .i64 e4) ∧ w'.cell? ⟨w.heap.size, 5, none⟩ = some (.slice xa n xc))
    ((refine SK.out _ ?_; (repeat first | with_reducible exact HB3.out | with_reducible exact HB2.out | with_reducible exact Below.refl _ _ | with_reducible refine Below.drew ?_)))
    ((go_at_call 42; refine (opRules_impl _).mono ?_; rintro r w2 ⟨rfl, hb⟩; have HB2 : Hid (Below W0.heap.size W0 w2) := bTrans ((Below.refl W0.heap.size W0).drew) hb; clear hb))
  all_goals
    go_wp2
    go_ret
    exact ⟨rfl, bTrans B0.out HB2.out⟩
set_option maxRecDepth 20000 in
set_option maxHeartbeats 8000000 in
theorem instrOk1_impl (h : IntsI w (.slice xa l.length xc) l) (hl : l.length ≤ 1048576) : Calls Try.prog 41 #[.agg #[.int .i64 1, .int .i64 e1, .int .i64 e2, .int .i64 e3, .int .i64 e4, .slice xa l.length xc]] w fun r w' => r = .returned (.bool (decide (e1 = 0) && noFun e2 e3 e4 && numsB l)) ∧ Below w.heap.size w w' := by
  have hE : ∀ (args : Array Value) (w : World), (callFunc 46 args).run Try.prog w = .ok (.enter 46 args) w := enters_of Try.func46 (by kernel_rfl) rfl
  have CJ : Hid (∀ W, Below w.heap.size w W → Calls Try.prog 46 #[.agg #[.int .i64 1, .int .i64 e1, .int .i64 e2, .int .i64 e3, .int .i64 e4, .slice xa l.length xc]] W fun r w' => r = .returned (.bool (decide (e1 = 0) && noFun e2 e3 e4 && numsB l)) ∧ Below W.heap.size W w') := fun W hb => justNums_impl (h.keep hb) hl
  have i0 := ixOp1
  have i1 := fldOp0
  have i2 := fldOp1
  clear h
  generalize (decide (e1 = 0) && noFun e2 e3 e4 && numsB l) = q at *
  generalize l.length = n at *
  go_enter Try.func41, Try.ntmps41
  go_wp2_with fail
  generalize hW : w.alloc (.cells #[.int .i64 1, .int .i64 e1, .int .i64 e2, .int .i64 e3, .int .i64 e4, .slice xa n xc] 44) = W0
  have B0 : Hid (Below w.heap.size w W0) := by rw [← hW]; exact one_below
  have LT : Hid (w.heap.size < W0.heap.size) := by rw [← hW]; show _ < _; simp
  have hn := heap_alloc_new w (.cells #[.int .i64 1, .int .i64 e1, .int .i64 e2, .int .i64 e3, .int .i64 e4, .slice xa n xc] 44)
  rw [hW] at hn
  have c0 : W0.cell? ⟨w.heap.size, 0, none⟩ = some (.int .i64 1) := cell_at hn rfl
  have c1 : W0.cell? ⟨w.heap.size, 1, none⟩ = some (.int .i64 e1) := cell_at hn rfl
  have c2 : W0.cell? ⟨w.heap.size, 2, none⟩ = some (.int .i64 e2) := cell_at hn rfl
  have c3 : W0.cell? ⟨w.heap.size, 3, none⟩ = some (.int .i64 e3) := cell_at hn rfl
  have c4 : W0.cell? ⟨w.heap.size, 4, none⟩ = some (.int .i64 e4) := cell_at hn rfl
  have c5 : W0.cell? ⟨w.heap.size, 5, none⟩ = some (.slice xa n xc) := cell_at hn rfl
  have SK : Hid (∀ W, Below W0.heap.size W0 W → W.cell? ⟨w.heap.size, 0, none⟩ = some (.int .i64 1) ∧ W.cell? ⟨w.heap.size, 1, none⟩ = some (.int .i64 e1) ∧ W.cell? ⟨w.heap.size, 2, none⟩ = some (.int .i64 e2) ∧ W.cell? ⟨w.heap.size, 3, none⟩ = some (.int .i64 e3) ∧ W.cell? ⟨w.heap.size, 4, none⟩ = some (.int .i64 e4) ∧ W.cell? ⟨w.heap.size, 5, none⟩ = some (.slice xa n xc)) := fun W hb => ⟨(hb.cell (p := ⟨w.heap.size, 0, none⟩) LT.out).trans c0, (hb.cell (p := ⟨w.heap.size, 1, none⟩) LT.out).trans c1, (hb.cell (p := ⟨w.heap.size, 2, none⟩) LT.out).trans c2, (hb.cell (p := ⟨w.heap.size, 3, none⟩) LT.out).trans c3, (hb.cell (p := ⟨w.heap.size, 4, none⟩) LT.out).trans c4, (hb.cell (p := ⟨w.heap.size, 5, none⟩) LT.out).trans c5⟩
  clear hW hn
  go_region_held3 (fun w' => w'.cell? ⟨w.heap.size, 0, none⟩ = some (.int .i64 1) ∧ w'.cell? ⟨w.heap.size, 1, none⟩ = some (.int .i64 e1) ∧ w'.cell? ⟨w.heap.size, 2, none⟩ = some (.int .i64 e2) ∧ w'.cell? ⟨w.heap.size, 3, none⟩ = some (.int .i64 e3) ∧ w'.cell? ⟨w.heap.size, 4, none⟩ = some (.int .i64 e4) ∧ w'.cell? ⟨w.heap.size, 5, none⟩ = some (.slice xa n xc))
    ((refine SK.out _ ?_; (repeat first | with_reducible exact HB3.out | with_reducible exact HB2.out | with_reducible exact Below.refl _ _ | with_reducible refine Below.drew ?_)))
    (first
      | (go_at_call 42; refine (opRules_impl _).mono ?_; rintro r w2 ⟨rfl, hb⟩; have HB2 : Hid (Below W0.heap.size W0 w2) := bTrans ((Below.refl W0.heap.size W0).drew) hb; clear hb)
      | (go_at_fn 46; refine (CJ.out _ (bTrans B0.out HB2.out)).mono ?_; rintro r w3 ⟨rfl, hb⟩; have HB3 : Hid (Below W0.heap.size W0 w3) := bTrans HB2.out hb; clear hb))
  all_goals
    go_wp2
    go_ret
    exact ⟨rfl, bTrans B0.out HB3.out⟩
set_option maxRecDepth 20000 in
set_option maxHeartbeats 8000000 in
theorem instrOk2_impl (h : IntsI w (.slice xa l.length xc) l) (hl : l.length ≤ 1048576) : Calls Try.prog 41 #[.agg #[.int .i64 2, .int .i64 e1, .int .i64 e2, .int .i64 e3, .int .i64 e4, .slice xa l.length xc]] w fun r w' => r = .returned (.bool (decide (0 ≤ e1 ∧ e1 ≤ 25) && noFun e2 e3 e4 && decide (l.length = 0))) ∧ Below w.heap.size w w' := by
  have hE : ∀ (args : Array Value) (w : World), (callFunc 47 args).run Try.prog w = .ok (.enter 47 args) w := enters_of Try.func47 (by kernel_rfl) rfl
  have CJ : Hid (∀ W, Below w.heap.size w W → Calls Try.prog 47 #[.agg #[.int .i64 2, .int .i64 e1, .int .i64 e2, .int .i64 e3, .int .i64 e4, .slice xa l.length xc]] W fun r w' => r = .returned (.bool (decide (0 ≤ e1 ∧ e1 ≤ 25) && noFun e2 e3 e4 && decide (l.length = 0))) ∧ Below W.heap.size W w') := fun W hb => justLetter_impl (h.keep hb) hl
  have i0 := ixOp2
  have i1 := fldOp0
  have i2 := fldOp1
  clear h
  generalize (decide (0 ≤ e1 ∧ e1 ≤ 25) && noFun e2 e3 e4 && decide (l.length = 0)) = q at *
  generalize l.length = n at *
  go_enter Try.func41, Try.ntmps41
  go_wp2_with fail
  generalize hW : w.alloc (.cells #[.int .i64 2, .int .i64 e1, .int .i64 e2, .int .i64 e3, .int .i64 e4, .slice xa n xc] 44) = W0
  have B0 : Hid (Below w.heap.size w W0) := by rw [← hW]; exact one_below
  have LT : Hid (w.heap.size < W0.heap.size) := by rw [← hW]; show _ < _; simp
  have hn := heap_alloc_new w (.cells #[.int .i64 2, .int .i64 e1, .int .i64 e2, .int .i64 e3, .int .i64 e4, .slice xa n xc] 44)
  rw [hW] at hn
  have c0 : W0.cell? ⟨w.heap.size, 0, none⟩ = some (.int .i64 2) := cell_at hn rfl
  have c1 : W0.cell? ⟨w.heap.size, 1, none⟩ = some (.int .i64 e1) := cell_at hn rfl
  have c2 : W0.cell? ⟨w.heap.size, 2, none⟩ = some (.int .i64 e2) := cell_at hn rfl
  have c3 : W0.cell? ⟨w.heap.size, 3, none⟩ = some (.int .i64 e3) := cell_at hn rfl
  have c4 : W0.cell? ⟨w.heap.size, 4, none⟩ = some (.int .i64 e4) := cell_at hn rfl
  have c5 : W0.cell? ⟨w.heap.size, 5, none⟩ = some (.slice xa n xc) := cell_at hn rfl
  have SK : Hid (∀ W, Below W0.heap.size W0 W → W.cell? ⟨w.heap.size, 0, none⟩ = some (.int .i64 2) ∧ W.cell? ⟨w.heap.size, 1, none⟩ = some (.int .i64 e1) ∧ W.cell? ⟨w.heap.size, 2, none⟩ = some (.int .i64 e2) ∧ W.cell? ⟨w.heap.size, 3, none⟩ = some (.int .i64 e3) ∧ W.cell? ⟨w.heap.size, 4, none⟩ = some (.int .i64 e4) ∧ W.cell? ⟨w.heap.size, 5, none⟩ = some (.slice xa n xc)) := fun W hb => ⟨(hb.cell (p := ⟨w.heap.size, 0, none⟩) LT.out).trans c0, (hb.cell (p := ⟨w.heap.size, 1, none⟩) LT.out).trans c1, (hb.cell (p := ⟨w.heap.size, 2, none⟩) LT.out).trans c2, (hb.cell (p := ⟨w.heap.size, 3, none⟩) LT.out).trans c3, (hb.cell (p := ⟨w.heap.size, 4, none⟩) LT.out).trans c4, (hb.cell (p := ⟨w.heap.size, 5, none⟩) LT.out).trans c5⟩
  clear hW hn
  go_region_held3 (fun w' => w'.cell? ⟨w.heap.size, 0, none⟩ = some (.int .i64 2) ∧ w'.cell? ⟨w.heap.size, 1, none⟩ = some (.int .i64 e1) ∧ w'.cell? ⟨w.heap.size, 2, none⟩ = some (.int .i64 e2) ∧ w'.cell? ⟨w.heap.size, 3, none⟩ = some (.int .i64 e3) ∧ w'.cell? ⟨w.heap.size, 4, none⟩ = some (.int .i64 e4) ∧ w'.cell? ⟨w.heap.size, 5, none⟩ = some (.slice xa n xc))
    ((refine SK.out _ ?_; (repeat first | with_reducible exact HB3.out | with_reducible exact HB2.out | with_reducible exact Below.refl _ _ | with_reducible refine Below.drew ?_)))
    (first
      | (go_at_call 42; refine (opRules_impl _).mono ?_; rintro r w2 ⟨rfl, hb⟩; have HB2 : Hid (Below W0.heap.size W0 w2) := bTrans ((Below.refl W0.heap.size W0).drew) hb; clear hb)
      | (go_at_fn 47; refine (CJ.out _ (bTrans B0.out HB2.out)).mono ?_; rintro r w3 ⟨rfl, hb⟩; have HB3 : Hid (Below W0.heap.size W0 w3) := bTrans HB2.out hb; clear hb))
  all_goals
    go_wp2
    go_ret
    exact ⟨rfl, bTrans B0.out HB3.out⟩
set_option maxRecDepth 20000 in
set_option maxHeartbeats 8000000 in
theorem instrOk3_impl (h : IntsI w (.slice xa l.length xc) l) (hl : l.length ≤ 1048576) : Calls Try.prog 41 #[.agg #[.int .i64 3, .int .i64 e1, .int .i64 e2, .int .i64 e3, .int .i64 e4, .slice xa l.length xc]] w fun r w' => r = .returned (.bool (decide (0 ≤ e1 ∧ e1 ≤ 25) && noFun e2 e3 e4 && decide (l.length = 0))) ∧ Below w.heap.size w w' := by
  have hE : ∀ (args : Array Value) (w : World), (callFunc 47 args).run Try.prog w = .ok (.enter 47 args) w := enters_of Try.func47 (by kernel_rfl) rfl
  have CJ : Hid (∀ W, Below w.heap.size w W → Calls Try.prog 47 #[.agg #[.int .i64 3, .int .i64 e1, .int .i64 e2, .int .i64 e3, .int .i64 e4, .slice xa l.length xc]] W fun r w' => r = .returned (.bool (decide (0 ≤ e1 ∧ e1 ≤ 25) && noFun e2 e3 e4 && decide (l.length = 0))) ∧ Below W.heap.size W w') := fun W hb => justLetter_impl (h.keep hb) hl
  have i0 := ixOp3
  have i1 := fldOp0
  have i2 := fldOp1
  clear h
  generalize (decide (0 ≤ e1 ∧ e1 ≤ 25) && noFun e2 e3 e4 && decide (l.length = 0)) = q at *
  generalize l.length = n at *
  go_enter Try.func41, Try.ntmps41
  go_wp2_with fail
  generalize hW : w.alloc (.cells #[.int .i64 3, .int .i64 e1, .int .i64 e2, .int .i64 e3, .int .i64 e4, .slice xa n xc] 44) = W0
  have B0 : Hid (Below w.heap.size w W0) := by rw [← hW]; exact one_below
  have LT : Hid (w.heap.size < W0.heap.size) := by rw [← hW]; show _ < _; simp
  have hn := heap_alloc_new w (.cells #[.int .i64 3, .int .i64 e1, .int .i64 e2, .int .i64 e3, .int .i64 e4, .slice xa n xc] 44)
  rw [hW] at hn
  have c0 : W0.cell? ⟨w.heap.size, 0, none⟩ = some (.int .i64 3) := cell_at hn rfl
  have c1 : W0.cell? ⟨w.heap.size, 1, none⟩ = some (.int .i64 e1) := cell_at hn rfl
  have c2 : W0.cell? ⟨w.heap.size, 2, none⟩ = some (.int .i64 e2) := cell_at hn rfl
  have c3 : W0.cell? ⟨w.heap.size, 3, none⟩ = some (.int .i64 e3) := cell_at hn rfl
  have c4 : W0.cell? ⟨w.heap.size, 4, none⟩ = some (.int .i64 e4) := cell_at hn rfl
  have c5 : W0.cell? ⟨w.heap.size, 5, none⟩ = some (.slice xa n xc) := cell_at hn rfl
  have SK : Hid (∀ W, Below W0.heap.size W0 W → W.cell? ⟨w.heap.size, 0, none⟩ = some (.int .i64 3) ∧ W.cell? ⟨w.heap.size, 1, none⟩ = some (.int .i64 e1) ∧ W.cell? ⟨w.heap.size, 2, none⟩ = some (.int .i64 e2) ∧ W.cell? ⟨w.heap.size, 3, none⟩ = some (.int .i64 e3) ∧ W.cell? ⟨w.heap.size, 4, none⟩ = some (.int .i64 e4) ∧ W.cell? ⟨w.heap.size, 5, none⟩ = some (.slice xa n xc)) := fun W hb => ⟨(hb.cell (p := ⟨w.heap.size, 0, none⟩) LT.out).trans c0, (hb.cell (p := ⟨w.heap.size, 1, none⟩) LT.out).trans c1, (hb.cell (p := ⟨w.heap.size, 2, none⟩) LT.out).trans c2, (hb.cell (p := ⟨w.heap.size, 3, none⟩) LT.out).trans c3, (hb.cell (p := ⟨w.heap.size, 4, none⟩) LT.out).trans c4, (hb.cell (p := ⟨w.heap.size, 5, none⟩) LT.out).trans c5⟩
  clear hW hn
  go_region_held3 (fun w' => w'.cell? ⟨w.heap.size, 0, none⟩ = some (.int .i64 3) ∧ w'.cell? ⟨w.heap.size, 1, none⟩ = some (.int .i64 e1) ∧ w'.cell? ⟨w.heap.size, 2, none⟩ = some (.int .i64 e2) ∧ w'.cell? ⟨w.heap.size, 3, none⟩ = some (.int .i64 e3) ∧ w'.cell? ⟨w.heap.size, 4, none⟩ = some (.int .i64 e4) ∧ w'.cell? ⟨w.heap.size, 5, none⟩ = some (.slice xa n xc))
    ((refine SK.out _ ?_; (repeat first | with_reducible exact HB3.out | with_reducible exact HB2.out | with_reducible exact Below.refl _ _ | with_reducible refine Below.drew ?_)))
    (first
      | (go_at_call 42; refine (opRules_impl _).mono ?_; rintro r w2 ⟨rfl, hb⟩; have HB2 : Hid (Below W0.heap.size W0 w2) := bTrans ((Below.refl W0.heap.size W0).drew) hb; clear hb)
      | (go_at_fn 47; refine (CJ.out _ (bTrans B0.out HB2.out)).mono ?_; rintro r w3 ⟨rfl, hb⟩; have HB3 : Hid (Below W0.heap.size W0 w3) := bTrans HB2.out hb; clear hb))
  all_goals
    go_wp2
    go_ret
    exact ⟨rfl, bTrans B0.out HB3.out⟩
set_option maxRecDepth 20000 in
set_option maxHeartbeats 8000000 in
theorem instrOk4_impl (h : IntsI w (.slice xa l.length xc) l) (hl : l.length ≤ 1048576) : Calls Try.prog 41 #[.agg #[.int .i64 4, .int .i64 e1, .int .i64 e2, .int .i64 e3, .int .i64 e4, .slice xa l.length xc]] w fun r w' => r = .returned (.bool (decide (e1 = 0) && funOneB e2 e3 e4 && decide (l.length = 0))) ∧ Below w.heap.size w w' := by
  have hE : ∀ (args : Array Value) (w : World), (callFunc 48 args).run Try.prog w = .ok (.enter 48 args) w := enters_of Try.func48 (by kernel_rfl) rfl
  have CJ : Hid (∀ W, Below w.heap.size w W → Calls Try.prog 48 #[.agg #[.int .i64 4, .int .i64 e1, .int .i64 e2, .int .i64 e3, .int .i64 e4, .slice xa l.length xc]] W fun r w' => r = .returned (.bool (decide (e1 = 0) && funOneB e2 e3 e4 && decide (l.length = 0))) ∧ Below W.heap.size W w') := fun W hb => justFunOne_impl (h.keep hb) hl
  have i0 := ixOp4
  have i1 := fldOp0
  have i2 := fldOp1
  clear h
  generalize (decide (e1 = 0) && funOneB e2 e3 e4 && decide (l.length = 0)) = q at *
  generalize l.length = n at *
  go_enter Try.func41, Try.ntmps41
  go_wp2_with fail
  generalize hW : w.alloc (.cells #[.int .i64 4, .int .i64 e1, .int .i64 e2, .int .i64 e3, .int .i64 e4, .slice xa n xc] 44) = W0
  have B0 : Hid (Below w.heap.size w W0) := by rw [← hW]; exact one_below
  have LT : Hid (w.heap.size < W0.heap.size) := by rw [← hW]; show _ < _; simp
  have hn := heap_alloc_new w (.cells #[.int .i64 4, .int .i64 e1, .int .i64 e2, .int .i64 e3, .int .i64 e4, .slice xa n xc] 44)
  rw [hW] at hn
  have c0 : W0.cell? ⟨w.heap.size, 0, none⟩ = some (.int .i64 4) := cell_at hn rfl
  have c1 : W0.cell? ⟨w.heap.size, 1, none⟩ = some (.int .i64 e1) := cell_at hn rfl
  have c2 : W0.cell? ⟨w.heap.size, 2, none⟩ = some (.int .i64 e2) := cell_at hn rfl
  have c3 : W0.cell? ⟨w.heap.size, 3, none⟩ = some (.int .i64 e3) := cell_at hn rfl
  have c4 : W0.cell? ⟨w.heap.size, 4, none⟩ = some (.int .i64 e4) := cell_at hn rfl
  have c5 : W0.cell? ⟨w.heap.size, 5, none⟩ = some (.slice xa n xc) := cell_at hn rfl
  have SK : Hid (∀ W, Below W0.heap.size W0 W → W.cell? ⟨w.heap.size, 0, none⟩ = some (.int .i64 4) ∧ W.cell? ⟨w.heap.size, 1, none⟩ = some (.int .i64 e1) ∧ W.cell? ⟨w.heap.size, 2, none⟩ = some (.int .i64 e2) ∧ W.cell? ⟨w.heap.size, 3, none⟩ = some (.int .i64 e3) ∧ W.cell? ⟨w.heap.size, 4, none⟩ = some (.int .i64 e4) ∧ W.cell? ⟨w.heap.size, 5, none⟩ = some (.slice xa n xc)) := fun W hb => ⟨(hb.cell (p := ⟨w.heap.size, 0, none⟩) LT.out).trans c0, (hb.cell (p := ⟨w.heap.size, 1, none⟩) LT.out).trans c1, (hb.cell (p := ⟨w.heap.size, 2, none⟩) LT.out).trans c2, (hb.cell (p := ⟨w.heap.size, 3, none⟩) LT.out).trans c3, (hb.cell (p := ⟨w.heap.size, 4, none⟩) LT.out).trans c4, (hb.cell (p := ⟨w.heap.size, 5, none⟩) LT.out).trans c5⟩
  clear hW hn
  go_region_held3 (fun w' => w'.cell? ⟨w.heap.size, 0, none⟩ = some (.int .i64 4) ∧ w'.cell? ⟨w.heap.size, 1, none⟩ = some (.int .i64 e1) ∧ w'.cell? ⟨w.heap.size, 2, none⟩ = some (.int .i64 e2) ∧ w'.cell? ⟨w.heap.size, 3, none⟩ = some (.int .i64 e3) ∧ w'.cell? ⟨w.heap.size, 4, none⟩ = some (.int .i64 e4) ∧ w'.cell? ⟨w.heap.size, 5, none⟩ = some (.slice xa n xc))
    ((refine SK.out _ ?_; (repeat first | with_reducible exact HB3.out | with_reducible exact HB2.out | with_reducible exact Below.refl _ _ | with_reducible refine Below.drew ?_)))
    (first
      | (go_at_call 42; refine (opRules_impl _).mono ?_; rintro r w2 ⟨rfl, hb⟩; have HB2 : Hid (Below W0.heap.size W0 w2) := bTrans ((Below.refl W0.heap.size W0).drew) hb; clear hb)
      | (go_at_fn 48; refine (CJ.out _ (bTrans B0.out HB2.out)).mono ?_; rintro r w3 ⟨rfl, hb⟩; have HB3 : Hid (Below W0.heap.size W0 w3) := bTrans HB2.out hb; clear hb))
  all_goals
    go_wp2
    go_ret
    exact ⟨rfl, bTrans B0.out HB3.out⟩
set_option maxRecDepth 20000 in
set_option maxHeartbeats 8000000 in
theorem instrOk5_impl (h : IntsI w (.slice xa l.length xc) l) (hl : l.length ≤ 1048576) : Calls Try.prog 41 #[.agg #[.int .i64 5, .int .i64 e1, .int .i64 e2, .int .i64 e3, .int .i64 e4, .slice xa l.length xc]] w fun r w' => r = .returned (.bool (decide (e1 = 0) && funTwoB e2 e3 e4 && decide (l.length = 0))) ∧ Below w.heap.size w w' := by
  have hE : ∀ (args : Array Value) (w : World), (callFunc 49 args).run Try.prog w = .ok (.enter 49 args) w := enters_of Try.func49 (by kernel_rfl) rfl
  have CJ : Hid (∀ W, Below w.heap.size w W → Calls Try.prog 49 #[.agg #[.int .i64 5, .int .i64 e1, .int .i64 e2, .int .i64 e3, .int .i64 e4, .slice xa l.length xc]] W fun r w' => r = .returned (.bool (decide (e1 = 0) && funTwoB e2 e3 e4 && decide (l.length = 0))) ∧ Below W.heap.size W w') := fun W hb => justFunTwo_impl (h.keep hb) hl
  have i0 := ixOp5
  have i1 := fldOp0
  have i2 := fldOp1
  clear h
  generalize (decide (e1 = 0) && funTwoB e2 e3 e4 && decide (l.length = 0)) = q at *
  generalize l.length = n at *
  go_enter Try.func41, Try.ntmps41
  go_wp2_with fail
  generalize hW : w.alloc (.cells #[.int .i64 5, .int .i64 e1, .int .i64 e2, .int .i64 e3, .int .i64 e4, .slice xa n xc] 44) = W0
  have B0 : Hid (Below w.heap.size w W0) := by rw [← hW]; exact one_below
  have LT : Hid (w.heap.size < W0.heap.size) := by rw [← hW]; show _ < _; simp
  have hn := heap_alloc_new w (.cells #[.int .i64 5, .int .i64 e1, .int .i64 e2, .int .i64 e3, .int .i64 e4, .slice xa n xc] 44)
  rw [hW] at hn
  have c0 : W0.cell? ⟨w.heap.size, 0, none⟩ = some (.int .i64 5) := cell_at hn rfl
  have c1 : W0.cell? ⟨w.heap.size, 1, none⟩ = some (.int .i64 e1) := cell_at hn rfl
  have c2 : W0.cell? ⟨w.heap.size, 2, none⟩ = some (.int .i64 e2) := cell_at hn rfl
  have c3 : W0.cell? ⟨w.heap.size, 3, none⟩ = some (.int .i64 e3) := cell_at hn rfl
  have c4 : W0.cell? ⟨w.heap.size, 4, none⟩ = some (.int .i64 e4) := cell_at hn rfl
  have c5 : W0.cell? ⟨w.heap.size, 5, none⟩ = some (.slice xa n xc) := cell_at hn rfl
  have SK : Hid (∀ W, Below W0.heap.size W0 W → W.cell? ⟨w.heap.size, 0, none⟩ = some (.int .i64 5) ∧ W.cell? ⟨w.heap.size, 1, none⟩ = some (.int .i64 e1) ∧ W.cell? ⟨w.heap.size, 2, none⟩ = some (.int .i64 e2) ∧ W.cell? ⟨w.heap.size, 3, none⟩ = some (.int .i64 e3) ∧ W.cell? ⟨w.heap.size, 4, none⟩ = some (.int .i64 e4) ∧ W.cell? ⟨w.heap.size, 5, none⟩ = some (.slice xa n xc)) := fun W hb => ⟨(hb.cell (p := ⟨w.heap.size, 0, none⟩) LT.out).trans c0, (hb.cell (p := ⟨w.heap.size, 1, none⟩) LT.out).trans c1, (hb.cell (p := ⟨w.heap.size, 2, none⟩) LT.out).trans c2, (hb.cell (p := ⟨w.heap.size, 3, none⟩) LT.out).trans c3, (hb.cell (p := ⟨w.heap.size, 4, none⟩) LT.out).trans c4, (hb.cell (p := ⟨w.heap.size, 5, none⟩) LT.out).trans c5⟩
  clear hW hn
  go_region_held3 (fun w' => w'.cell? ⟨w.heap.size, 0, none⟩ = some (.int .i64 5) ∧ w'.cell? ⟨w.heap.size, 1, none⟩ = some (.int .i64 e1) ∧ w'.cell? ⟨w.heap.size, 2, none⟩ = some (.int .i64 e2) ∧ w'.cell? ⟨w.heap.size, 3, none⟩ = some (.int .i64 e3) ∧ w'.cell? ⟨w.heap.size, 4, none⟩ = some (.int .i64 e4) ∧ w'.cell? ⟨w.heap.size, 5, none⟩ = some (.slice xa n xc))
    ((refine SK.out _ ?_; (repeat first | with_reducible exact HB3.out | with_reducible exact HB2.out | with_reducible exact Below.refl _ _ | with_reducible refine Below.drew ?_)))
    (first
      | (go_at_call 42; refine (opRules_impl _).mono ?_; rintro r w2 ⟨rfl, hb⟩; have HB2 : Hid (Below W0.heap.size W0 w2) := bTrans ((Below.refl W0.heap.size W0).drew) hb; clear hb)
      | (go_at_fn 49; refine (CJ.out _ (bTrans B0.out HB2.out)).mono ?_; rintro r w3 ⟨rfl, hb⟩; have HB3 : Hid (Below W0.heap.size W0 w3) := bTrans HB2.out hb; clear hb))
  all_goals
    go_wp2
    go_ret
    exact ⟨rfl, bTrans B0.out HB3.out⟩
set_option maxRecDepth 20000 in
set_option maxHeartbeats 8000000 in
theorem instrOk0_impl {e0 : Int} {n : Nat} (h : ¬ (1 ≤ e0 ∧ e0 ≤ 5)) : Calls Try.prog 41 #[.agg #[.int .i64 e0, .int .i64 e1, .int .i64 e2, .int .i64 e3, .int .i64 e4, .slice xa n xc]] w fun r w' => r = .returned (.bool false) ∧ Below w.heap.size w w' := by
  by_cases h1 : 1 ≤ e0
  · have h5 : ¬ e0 ≤ 5 := fun g => h ⟨h1, g⟩
    have g1 : decide (1 ≤ e0) = true := decide_eq_true h1
    have g5 : decide (e0 ≤ 5) = false := decide_eq_false h5
    clear h
    go_enter Try.func41, Try.ntmps41
    go_wp2_with fail
    go_quiet (fail)
    go_wp2
    go_ret
    exact ⟨rfl, bDrewN one_below _⟩
  · have g1 : decide (1 ≤ e0) = false := decide_eq_false h1
    clear h
    go_enter Try.func41, Try.ntmps41
    go_wp2_with fail
    go_quiet (fail)
    go_wp2
    go_ret
    exact ⟨rfl, bDrewN one_below _⟩
end
theorem insB_out {e : Nat → Int} {l : List Int} (h : ¬ (1 ≤ e 0 ∧ e 0 ≤ 5)) : insB e l = false := by unfold insB; rw [if_neg (by omega), if_neg (by omega), if_neg (by omega), if_neg (by omega)]
/-- The program's instrOk. -/
theorem instrOk_impl (e : Nat → Int) {l : List Int} {w : World} {xa : Option Addr} {xc : Nat} (h : IntsI w (.slice xa l.length xc) l) (hl : l.length ≤ 1048576) : Calls Try.prog 41 #[.agg #[.int .i64 (e 0), .int .i64 (e 1), .int .i64 (e 2), .int .i64 (e 3), .int .i64 (e 4), .slice xa l.length xc]] w fun r w' => r = .returned (.bool (insB e l)) ∧ Below w.heap.size w w' := by
  by_cases hr : 1 ≤ e 0 ∧ e 0 ≤ 5
  · unfold insB
    by_cases h1 : e 0 = 1
    · rw [if_pos h1, h1]; exact instrOk1_impl h hl
    rw [if_neg h1]
    by_cases h2 : e 0 = 2
    · rw [if_pos (.inl h2), h2]; exact instrOk2_impl h hl
    by_cases h3 : e 0 = 3
    · rw [if_pos (.inr h3), h3]; exact instrOk3_impl h hl
    rw [if_neg (fun h => h.elim h2 h3)]
    by_cases h4 : e 0 = 4
    · rw [if_pos h4, h4]; exact instrOk4_impl h hl
    rw [if_neg h4]
    have h5 : e 0 = 5 := by omega
    rw [if_pos h5, h5]; exact instrOk5_impl h hl
  · rw [insB_out hr]; exact instrOk0_impl hr
theorem insB_in {e : Nat → Int} {l : List Int} (h : insB e l = true) : 1 ≤ e 0 ∧ e 0 ≤ 5 := by
  by_cases hr : 1 ≤ e 0 ∧ e 0 ≤ 5
  · exact hr
  · rw [insB_out hr] at h; exact absurd h (by decide)
/-- takenFromStack. -/
theorem taken_impl {e0 e1 e2 e3 e4 : Int} {n : Nat} {w : World} {xa : Option Addr} {xc : Nat} (h : 1 ≤ e0 ∧ e0 ≤ 5) : Calls Try.prog 32 #[.agg #[.int .i64 e0, .int .i64 e1, .int .i64 e2, .int .i64 e3, .int .i64 e4, .slice xa n xc]] w fun r w' => r = .returned (.int .i64 (takesN e0)) ∧ Below w.heap.size w w' := by
  by_cases h1 : e0 = 1
  · subst h1; exact taken1_impl
  by_cases h2 : e0 = 2
  · subst h2; exact taken2_impl
  by_cases h3 : e0 = 3
  · subst h3; exact taken3_impl
  by_cases h4 : e0 = 4
  · subst h4; exact taken4_impl
  have h5 : e0 = 5 := by omega
  subst h5; exact taken5_impl
end Go.Proofs.Ytpommfkbkknjaaa
