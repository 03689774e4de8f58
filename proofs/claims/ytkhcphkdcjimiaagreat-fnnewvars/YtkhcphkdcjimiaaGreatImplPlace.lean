/-
  Walks: the program's IndexOf and PlaceOf, of a shape that holds, rank by rank.
-/
import Derived.Test.YtkhcphkdcjimiaaGreatImplShape0
import Derived.Laws.StructEq
namespace Go.Proofs.YtkhcphkdcjimiaaGreat
open Go.RowKit
set_option linter.unusedVariables false
/-- Arrays of three numbers, compared as a whole. -/
theorem eq_axes (w : World) (i j k i' j' k' : Int) : (Op.equalIn 10000 110 (.agg #[.int .i64 i, .int .i64 j, .int .i64 k]) (.agg #[.int .i64 i', .int .i64 j', .int .i64 k'])).run Tryz.prog w = .ok (i == i' && (j == j' && k == k')) w := by
  have hs : (sizeOf 3).run Tryz.prog w = .ok 1 w := by kernel_rfl
  have p0 : ∀ a b c : Int, (part 3 #[.int .i64 a, .int .i64 b, .int .i64 c] 0).run Tryz.prog w = .ok (.int .i64 a) w := fun a b c => by kernel_rfl
  have p1 : ∀ a b c : Int, (part 3 #[.int .i64 a, .int .i64 b, .int .i64 c] 1).run Tryz.prog w = .ok (.int .i64 b) w := fun a b c => by kernel_rfl
  have p2 : ∀ a b c : Int, (part 3 #[.int .i64 a, .int .i64 b, .int .i64 c] 2).run Tryz.prog w = .ok (.int .i64 c) w := fun a b c => by kernel_rfl
  have ei : ∀ a b : Int, (Op.equalIn (9998 + 1) 3 (.int .i64 a) (.int .i64 b)).run Tryz.prog w = .ok (a == b) w := fun a b => run_equalIn_int w 9998 3 .i64 .i64 a b Tryz.underlying3
  show (Op.equalIn (9998 + 1 + 1) 110 _ _).run Tryz.prog w = _
  rw [Op.equalIn]
  generalize 9998 + 1 = d at ei ⊢
  simp only [Sem.run_bind, run_underlying Tryz.underlying110, Result.andThen_ok, hs]
  simp only [Std.Legacy.Range.forIn_eq_forIn_range', Std.Legacy.Range.size, List.range', Nat.sub_zero, Nat.add_sub_cancel, Nat.div_one, List.forIn_cons, List.forIn_nil, Sem.run_bind]
  cases h0 : i == i' <;> cases h1 : j == j' <;> cases h2 : k == k' <;> simp [p0, p1, p2, ei, h0, h1, h2]
theorem newInts_2 (w : World) (A : Obj) (l : List Int) {B : Nat} (hB : B ≤ w.heap.size) (hl : l.length ≤ 1073741824) : NewInts B ((w.alloc A).alloc (.cells (vals l) 3)) (.slice (some ⟨w.heap.size + 1, 0, none⟩) l.length l.length) l := by
  have e : (w.alloc A).heap.size = w.heap.size + 1 := by simp
  rw [← e]
  exact newInts_alloc (w.alloc A) l (by omega) hl
set_option maxRecDepth 20000 in
set_option maxHeartbeats 2000000 in
theorem index_0_impl (p : Int) (a : Option Addr) (c : Nat) (w : World) (h1 : Ints w a [])  (q1 : 0 ≤ p) (q2 : p < 1)  :
    Calls Tryz.prog 102 #[.slice a 0 c, .int .i64 p] w fun e w' => ∃ v, e = .returned v ∧ NewInts w.heap.size w' v [] ∧ Below w.heap.size w w' := by
  have H1 : Hid (Ints w a []) := h1
  clear h1
  have hmk : ∀ w, (Instr.makeSlice 27 (.int .i64 0) (.int .i64 0)).run Tryz.prog w = .ok (.slice (some ⟨w.heap.size, 0, none⟩) 0 0) (w.alloc (.cells #[] 3)) := fun w => make_ints 0 (by omega) w
  go_enter Tryz.func102, Tryz.ntmps102
  go_wp2_with fail
  refine (ext_0_ok  _ _ _ H1.out ).mono ?_
  rintro e w1 ⟨rfl, hb⟩
  have HB : Hid (Below w.heap.size w w1) := hb
  clear hb
  go_wp2_with fail
  refine (idx_0_in  p _  q1 q2 (by omega)).mono ?_
  rintro e w2 ⟨rfl, o0, o1, o2, o3, hw⟩
  have HB2 : Hid (Below w.heap.size w w2) := by rw [hw]; exact bTrans (bAlloc HB.out _) (kept4 _ _ _ _ _ _)
  have hc : ∀ o : Obj, (w2.alloc o).cell? ⟨w1.heap.size, 0, none⟩ = some (.int .i64 0) := by
    intro o
    rw [hw, (bAlloc (kept4 w1 _ o0 o1 o2 o3) o).cell (p := ⟨w1.heap.size, 0, none⟩) (by simp)]
    exact cell_new _ _ _ rfl
  clear hw
  have hcp : (Builtin.copy_ #[27, 27] 3 #[.slice (some ⟨w2.heap.size + 1, 0, none⟩) 0 0, .slice (some ⟨w2.heap.size, 0, none⟩) 3 3]).run Tryz.prog ((w2.alloc (.cells #[.int .i64 0, .int .i64 0, .int .i64 0] 110)).alloc (.cells #[] 3)) = .ok (.int .i64 0) ((w2.alloc (.cells #[.int .i64 0, .int .i64 0, .int .i64 0] 110)).alloc (.cells #[] 3)) := copy_out w2 3 110 [.int .i64 0, .int .i64 0, .int .i64 0] [] 0 (by omega) rfl rfl (by simp [Value.oneCell'])
  go_wp2
  go_ret
  exact ⟨_, rfl, newInts_2 w2 _ [] HB2.out.size (by simp), bAlloc (bAlloc HB2.out _) _⟩
set_option maxRecDepth 20000 in
set_option maxHeartbeats 2000000 in
theorem index_1_impl (x : Int) (i : Int) (p : Int) (a : Option Addr) (c : Nat) (w : World) (h1 : Ints w a [x]) (x0 : 0 < x) (x1 : x ≤ 300) (q1 : 0 ≤ p) (q2 : p < x) (e0 : p % x = i) :
    Calls Tryz.prog 102 #[.slice a 1 c, .int .i64 p] w fun e w' => ∃ v, e = .returned v ∧ NewInts w.heap.size w' v [i] ∧ Below w.heap.size w w' := by
  have H1 : Hid (Ints w a [x]) := h1
  clear h1
  have HE0 : Hid (p % x = i) := e0
  clear e0
  have hmk : ∀ w, (Instr.makeSlice 27 (.int .i64 1) (.int .i64 1)).run Tryz.prog w = .ok (.slice (some ⟨w.heap.size, 0, none⟩) 1 1) (w.alloc (.cells #[.int .i64 0] 3)) := fun w => make_ints 1 (by omega) w
  go_enter Tryz.func102, Tryz.ntmps102
  go_wp2_with fail
  refine (ext_1_ok x _ _ _ H1.out (by omega) x1).mono ?_
  rintro e w1 ⟨rfl, hb⟩
  have HB : Hid (Below w.heap.size w w1) := hb
  clear hb
  go_wp2_with fail
  refine (idx_1_in x p _ x0 x1 q1 q2 (by omega)).mono ?_
  rintro e w2 ⟨rfl, o0, o1, o2, o3, hw⟩
  have HB2 : Hid (Below w.heap.size w w2) := by rw [hw]; exact bTrans (bAlloc HB.out _) (kept4 _ _ _ _ _ _)
  have hc : ∀ o : Obj, (w2.alloc o).cell? ⟨w1.heap.size, 0, none⟩ = some (.int .i64 1) := by
    intro o
    rw [hw, (bAlloc (kept4 w1 _ o0 o1 o2 o3) o).cell (p := ⟨w1.heap.size, 0, none⟩) (by simp)]
    exact cell_new _ _ _ rfl
  clear hw
  rw [HE0.out]
  have hcp : (Builtin.copy_ #[27, 27] 3 #[.slice (some ⟨w2.heap.size + 1, 0, none⟩) 1 1, .slice (some ⟨w2.heap.size, 0, none⟩) 3 3]).run Tryz.prog ((w2.alloc (.cells #[.int .i64 i, .int .i64 0, .int .i64 0] 110)).alloc (.cells #[.int .i64 0] 3)) = .ok (.int .i64 1) ((w2.alloc (.cells #[.int .i64 i, .int .i64 0, .int .i64 0] 110)).alloc (.cells #[.int .i64 i] 3)) := copy_out w2 3 110 [.int .i64 i, .int .i64 0, .int .i64 0] [.int .i64 0] 1 (by omega) rfl rfl (by simp [Value.oneCell'])
  go_wp2
  go_ret
  exact ⟨_, rfl, newInts_2 w2 _ [i] HB2.out.size (by simp), bAlloc (bAlloc HB2.out _) _⟩
set_option maxRecDepth 20000 in
set_option maxHeartbeats 2000000 in
theorem index_2_impl (x y : Int) (i j : Int) (p : Int) (a : Option Addr) (c : Nat) (w : World) (h1 : Ints w a [x, y]) (x0 : 0 < x) (x1 : x ≤ 300) (y0 : 0 < y) (y1 : y ≤ 300) (hp : x * y ≤ 300) (q1 : 0 ≤ p) (q2 : p < x * y) (e0 : p / y % x = i) (e1 : p % y = j) :
    Calls Tryz.prog 102 #[.slice a 2 c, .int .i64 p] w fun e w' => ∃ v, e = .returned v ∧ NewInts w.heap.size w' v [i, j] ∧ Below w.heap.size w w' := by
  have H1 : Hid (Ints w a [x, y]) := h1
  clear h1
  have HE0 : Hid (p / y % x = i) := e0
  clear e0
  have HE1 : Hid (p % y = j) := e1
  clear e1
  have hmk : ∀ w, (Instr.makeSlice 27 (.int .i64 2) (.int .i64 2)).run Tryz.prog w = .ok (.slice (some ⟨w.heap.size, 0, none⟩) 2 2) (w.alloc (.cells #[.int .i64 0, .int .i64 0] 3)) := fun w => make_ints 2 (by omega) w
  go_enter Tryz.func102, Tryz.ntmps102
  go_wp2_with fail
  refine (ext_2_ok x y _ _ _ H1.out (by omega) x1 (by omega) y1 hp).mono ?_
  rintro e w1 ⟨rfl, hb⟩
  have HB : Hid (Below w.heap.size w w1) := hb
  clear hb
  go_wp2_with fail
  refine (idx_2_in x y p _ x0 x1 y0 y1 q1 q2 (by omega)).mono ?_
  rintro e w2 ⟨rfl, o0, o1, o2, o3, hw⟩
  have HB2 : Hid (Below w.heap.size w w2) := by rw [hw]; exact bTrans (bAlloc HB.out _) (kept4 _ _ _ _ _ _)
  have hc : ∀ o : Obj, (w2.alloc o).cell? ⟨w1.heap.size, 0, none⟩ = some (.int .i64 2) := by
    intro o
    rw [hw, (bAlloc (kept4 w1 _ o0 o1 o2 o3) o).cell (p := ⟨w1.heap.size, 0, none⟩) (by simp)]
    exact cell_new _ _ _ rfl
  clear hw
  rw [HE0.out, HE1.out]
  have hcp : (Builtin.copy_ #[27, 27] 3 #[.slice (some ⟨w2.heap.size + 1, 0, none⟩) 2 2, .slice (some ⟨w2.heap.size, 0, none⟩) 3 3]).run Tryz.prog ((w2.alloc (.cells #[.int .i64 i, .int .i64 j, .int .i64 0] 110)).alloc (.cells #[.int .i64 0, .int .i64 0] 3)) = .ok (.int .i64 2) ((w2.alloc (.cells #[.int .i64 i, .int .i64 j, .int .i64 0] 110)).alloc (.cells #[.int .i64 i, .int .i64 j] 3)) := copy_out w2 3 110 [.int .i64 i, .int .i64 j, .int .i64 0] [.int .i64 0, .int .i64 0] 2 (by omega) rfl rfl (by simp [Value.oneCell'])
  go_wp2
  go_ret
  exact ⟨_, rfl, newInts_2 w2 _ [i, j] HB2.out.size (by simp), bAlloc (bAlloc HB2.out _) _⟩
set_option maxRecDepth 20000 in
set_option maxHeartbeats 2000000 in
theorem index_3_impl (x y z : Int) (i j k : Int) (p : Int) (a : Option Addr) (c : Nat) (w : World) (h1 : Ints w a [x, y, z]) (x0 : 0 < x) (x1 : x ≤ 300) (y0 : 0 < y) (y1 : y ≤ 300) (z0 : 0 < z) (z1 : z ≤ 300) (hp : x * y * z ≤ 300) (q1 : 0 ≤ p) (q2 : p < x * y * z) (e0 : p / z / y % x = i) (e1 : p / z % y = j) (e2 : p % z = k) :
    Calls Tryz.prog 102 #[.slice a 3 c, .int .i64 p] w fun e w' => ∃ v, e = .returned v ∧ NewInts w.heap.size w' v [i, j, k] ∧ Below w.heap.size w w' := by
  have H1 : Hid (Ints w a [x, y, z]) := h1
  clear h1
  have HE0 : Hid (p / z / y % x = i) := e0
  clear e0
  have HE1 : Hid (p / z % y = j) := e1
  clear e1
  have HE2 : Hid (p % z = k) := e2
  clear e2
  have hmk : ∀ w, (Instr.makeSlice 27 (.int .i64 3) (.int .i64 3)).run Tryz.prog w = .ok (.slice (some ⟨w.heap.size, 0, none⟩) 3 3) (w.alloc (.cells #[.int .i64 0, .int .i64 0, .int .i64 0] 3)) := fun w => make_ints 3 (by omega) w
  go_enter Tryz.func102, Tryz.ntmps102
  go_wp2_with fail
  refine (ext_3_ok x y z _ _ _ H1.out (by omega) x1 (by omega) y1 (by omega) z1 hp).mono ?_
  rintro e w1 ⟨rfl, hb⟩
  have HB : Hid (Below w.heap.size w w1) := hb
  clear hb
  go_wp2_with fail
  refine (idx_3_in x y z p _ x0 x1 y0 y1 z0 z1 q1 q2 (by omega)).mono ?_
  rintro e w2 ⟨rfl, o0, o1, o2, o3, hw⟩
  have HB2 : Hid (Below w.heap.size w w2) := by rw [hw]; exact bTrans (bAlloc HB.out _) (kept4 _ _ _ _ _ _)
  have hc : ∀ o : Obj, (w2.alloc o).cell? ⟨w1.heap.size, 0, none⟩ = some (.int .i64 3) := by
    intro o
    rw [hw, (bAlloc (kept4 w1 _ o0 o1 o2 o3) o).cell (p := ⟨w1.heap.size, 0, none⟩) (by simp)]
    exact cell_new _ _ _ rfl
  clear hw
  rw [HE0.out, HE1.out, HE2.out]
  have hcp : (Builtin.copy_ #[27, 27] 3 #[.slice (some ⟨w2.heap.size + 1, 0, none⟩) 3 3, .slice (some ⟨w2.heap.size, 0, none⟩) 3 3]).run Tryz.prog ((w2.alloc (.cells #[.int .i64 i, .int .i64 j, .int .i64 k] 110)).alloc (.cells #[.int .i64 0, .int .i64 0, .int .i64 0] 3)) = .ok (.int .i64 3) ((w2.alloc (.cells #[.int .i64 i, .int .i64 j, .int .i64 k] 110)).alloc (.cells #[.int .i64 i, .int .i64 j, .int .i64 k] 3)) := copy_out w2 3 110 [.int .i64 i, .int .i64 j, .int .i64 k] [.int .i64 0, .int .i64 0, .int .i64 0] 3 (by omega) rfl rfl (by simp [Value.oneCell'])
  go_wp2
  go_ret
  exact ⟨_, rfl, newInts_2 w2 _ [i, j, k] HB2.out.size (by simp), bAlloc (bAlloc HB2.out _) _⟩
set_option maxRecDepth 20000 in
set_option maxHeartbeats 2000000 in
theorem place_0_hit (P : Int) (a b : Option Addr) (c d : Nat) (w : World) (h1 : Ints w a []) (h2 : Ints w b []) (hP : 0 = P)  (q1 : 0 ≤ P) (q2 : P < 1)  (hB : ((0 : Int) == 0 && ((0 : Int) == 0 && ((0 : Int) == 0))) = true) :
    Calls Tryz.prog 103 #[.slice a 0 c, .slice b 0 d] w fun e w' => e = .returned (.int .i64 P) ∧ Below w.heap.size w w' := by
  have H1 : Hid (Ints w a []) := h1
  have H2 : Hid (Ints w b []) := h2
  have HR : Hid (∀ w, Calls Tryz.prog 140 #[.agg #[.int .i64 0, .int .i64 0, .int .i64 0, .int .i64 0], .agg #[.int .i64 0, .int .i64 0, .int .i64 0]] w fun e w' => e = .returned (.int .i64 P) ∧ ∃ o p, w' = (w.alloc o).alloc p) := by
    intro w
    rw [← hP]
    exact reck_0_ext   w
  have heq : ∀ w, (Op.equalIn 10000 110 (.agg #[.int .i64 0, .int .i64 0, .int .i64 0]) (.agg #[.int .i64 0, .int .i64 0, .int .i64 0])).run Tryz.prog w = .ok true w := fun w => by rw [eq_axes, hB]
  clear hB
  clear h1 h2 hP
  go_enter Tryz.func103, Tryz.ntmps103
  go_wp2_with fail
  refine (ext_0_ok  _ _ _ H1.out ).mono ?_
  rintro e w1 ⟨rfl, hb⟩
  have HB : Hid (Below w.heap.size w w1) := hb
  have hcp : (Builtin.copy_ #[27, 27] 3 #[.slice (some ⟨w1.heap.size + 1, 0, none⟩) 3 3, .slice b 0 d]).run Tryz.prog ((w1.alloc (.cells #[.int .i64 0, .int .i64 0, .int .i64 0, .int .i64 0] 112)).alloc (.cells #[.int .i64 0, .int .i64 0, .int .i64 0] 110)) = .ok (.int .i64 0) ((w1.alloc (.cells #[.int .i64 0, .int .i64 0, .int .i64 0, .int .i64 0] 112)).alloc (.cells #[.int .i64 0, .int .i64 0, .int .i64 0] 110)) := by
    have q := copy_in ((H2.out.keep hb).alloc (.cells #[.int .i64 0, .int .i64 0, .int .i64 0, .int .i64 0] 112)) 3 110 d (by simp)
    rw [show (w1.alloc (.cells #[.int .i64 0, .int .i64 0, .int .i64 0, .int .i64 0] 112)).heap.size = w1.heap.size + 1 by simp] at q
    exact q
  clear hb
  go_wp2_with fail
  refine (HR.out _).mono ?_
  rintro e w3 ⟨rfl, o, p, hw⟩
  subst w3
  go_wp2_with fail
  refine (idx_0_in  P _  q1 q2 (by omega)).mono ?_
  rintro e w2 ⟨rfl, o0, o1, o2, o3, hw⟩
  subst w2
  go_wp2
  go_ret
  exact ⟨rfl, by repeat first | exact HB.out | refine bAlloc ?_ _⟩
set_option maxRecDepth 20000 in
set_option maxHeartbeats 2000000 in
theorem place_1_hit (x : Int) (i : Int) (i' : Int) (P : Int) (a b : Option Addr) (c d : Nat) (w : World) (h1 : Ints w a [x]) (h2 : Ints w b [i]) (hP : wrap64 i = P) (x0 : 0 < x) (x1 : x ≤ 300) (q1 : 0 ≤ P) (q2 : P < x) (e0 : P % x = i') (hB : (i' == i && ((0 : Int) == 0 && ((0 : Int) == 0))) = true) :
    Calls Tryz.prog 103 #[.slice a 1 c, .slice b 1 d] w fun e w' => e = .returned (.int .i64 P) ∧ Below w.heap.size w w' := by
  have H1 : Hid (Ints w a [x]) := h1
  have H2 : Hid (Ints w b [i]) := h2
  have HR : Hid (∀ w, Calls Tryz.prog 140 #[.agg #[.int .i64 1, .int .i64 x, .int .i64 0, .int .i64 0], .agg #[.int .i64 i, .int .i64 0, .int .i64 0]] w fun e w' => e = .returned (.int .i64 P) ∧ ∃ o p, w' = (w.alloc o).alloc p) := by
    intro w
    rw [← hP]
    exact reck_1_ext x i w
  have HE0 : Hid (P % x = i') := e0
  have heq : ∀ w, (Op.equalIn 10000 110 (.agg #[.int .i64 i', .int .i64 0, .int .i64 0]) (.agg #[.int .i64 i, .int .i64 0, .int .i64 0])).run Tryz.prog w = .ok true w := fun w => by rw [eq_axes, hB]
  clear hB e0
  clear h1 h2 hP
  go_enter Tryz.func103, Tryz.ntmps103
  go_wp2_with fail
  refine (ext_1_ok x _ _ _ H1.out (by omega) x1).mono ?_
  rintro e w1 ⟨rfl, hb⟩
  have HB : Hid (Below w.heap.size w w1) := hb
  have hcp : (Builtin.copy_ #[27, 27] 3 #[.slice (some ⟨w1.heap.size + 1, 0, none⟩) 3 3, .slice b 1 d]).run Tryz.prog ((w1.alloc (.cells #[.int .i64 1, .int .i64 x, .int .i64 0, .int .i64 0] 112)).alloc (.cells #[.int .i64 0, .int .i64 0, .int .i64 0] 110)) = .ok (.int .i64 1) ((w1.alloc (.cells #[.int .i64 1, .int .i64 x, .int .i64 0, .int .i64 0] 112)).alloc (.cells #[.int .i64 i, .int .i64 0, .int .i64 0] 110)) := by
    have q := copy_in ((H2.out.keep hb).alloc (.cells #[.int .i64 1, .int .i64 x, .int .i64 0, .int .i64 0] 112)) 3 110 d (by simp)
    rw [show (w1.alloc (.cells #[.int .i64 1, .int .i64 x, .int .i64 0, .int .i64 0] 112)).heap.size = w1.heap.size + 1 by simp] at q
    exact q
  clear hb
  go_wp2_with fail
  refine (HR.out _).mono ?_
  rintro e w3 ⟨rfl, o, p, hw⟩
  subst w3
  go_wp2_with fail
  refine (idx_1_in x P _ x0 x1 q1 q2 (by omega)).mono ?_
  rintro e w2 ⟨rfl, o0, o1, o2, o3, hw⟩
  subst w2
  rw [HE0.out]
  go_wp2
  go_ret
  exact ⟨rfl, by repeat first | exact HB.out | refine bAlloc ?_ _⟩
set_option maxRecDepth 20000 in
set_option maxHeartbeats 2000000 in
theorem place_1_miss (x : Int) (i : Int) (i' : Int) (P : Int) (a b : Option Addr) (c d : Nat) (w : World) (h1 : Ints w a [x]) (h2 : Ints w b [i]) (hP : wrap64 i = P) (x0 : 0 < x) (x1 : x ≤ 300) (q1 : 0 ≤ P) (q2 : P < x) (e0 : P % x = i') (hB : (i' == i && ((0 : Int) == 0 && ((0 : Int) == 0))) = false) :
    Calls Tryz.prog 103 #[.slice a 1 c, .slice b 1 d] w fun e w' => e = .returned (.int .i64 (-1)) ∧ Below w.heap.size w w' := by
  have H1 : Hid (Ints w a [x]) := h1
  have H2 : Hid (Ints w b [i]) := h2
  have HR : Hid (∀ w, Calls Tryz.prog 140 #[.agg #[.int .i64 1, .int .i64 x, .int .i64 0, .int .i64 0], .agg #[.int .i64 i, .int .i64 0, .int .i64 0]] w fun e w' => e = .returned (.int .i64 P) ∧ ∃ o p, w' = (w.alloc o).alloc p) := by
    intro w
    rw [← hP]
    exact reck_1_ext x i w
  have HE0 : Hid (P % x = i') := e0
  have heq : ∀ w, (Op.equalIn 10000 110 (.agg #[.int .i64 i', .int .i64 0, .int .i64 0]) (.agg #[.int .i64 i, .int .i64 0, .int .i64 0])).run Tryz.prog w = .ok false w := fun w => by rw [eq_axes, hB]
  clear hB e0
  clear h1 h2 hP
  go_enter Tryz.func103, Tryz.ntmps103
  go_wp2_with fail
  refine (ext_1_ok x _ _ _ H1.out (by omega) x1).mono ?_
  rintro e w1 ⟨rfl, hb⟩
  have HB : Hid (Below w.heap.size w w1) := hb
  have hcp : (Builtin.copy_ #[27, 27] 3 #[.slice (some ⟨w1.heap.size + 1, 0, none⟩) 3 3, .slice b 1 d]).run Tryz.prog ((w1.alloc (.cells #[.int .i64 1, .int .i64 x, .int .i64 0, .int .i64 0] 112)).alloc (.cells #[.int .i64 0, .int .i64 0, .int .i64 0] 110)) = .ok (.int .i64 1) ((w1.alloc (.cells #[.int .i64 1, .int .i64 x, .int .i64 0, .int .i64 0] 112)).alloc (.cells #[.int .i64 i, .int .i64 0, .int .i64 0] 110)) := by
    have q := copy_in ((H2.out.keep hb).alloc (.cells #[.int .i64 1, .int .i64 x, .int .i64 0, .int .i64 0] 112)) 3 110 d (by simp)
    rw [show (w1.alloc (.cells #[.int .i64 1, .int .i64 x, .int .i64 0, .int .i64 0] 112)).heap.size = w1.heap.size + 1 by simp] at q
    exact q
  clear hb
  go_wp2_with fail
  refine (HR.out _).mono ?_
  rintro e w3 ⟨rfl, o, p, hw⟩
  subst w3
  go_wp2_with fail
  refine (idx_1_in x P _ x0 x1 q1 q2 (by omega)).mono ?_
  rintro e w2 ⟨rfl, o0, o1, o2, o3, hw⟩
  subst w2
  rw [HE0.out]
  go_wp2
  go_ret
  exact ⟨rfl, by repeat first | exact HB.out | refine bAlloc ?_ _⟩
set_option maxRecDepth 20000 in
set_option maxHeartbeats 2000000 in
theorem place_1_neg (x : Int) (i : Int) (P : Int) (a b : Option Addr) (c d : Nat) (w : World) (h1 : Ints w a [x]) (h2 : Ints w b [i]) (hP : wrap64 i = P) (x0 : 0 ≤ x) (x1 : x ≤ 300) (q1 : P < 0) :
    Calls Tryz.prog 103 #[.slice a 1 c, .slice b 1 d] w fun e w' => e = .returned (.int .i64 (-1)) ∧ Below w.heap.size w w' := by
  have H1 : Hid (Ints w a [x]) := h1
  have H2 : Hid (Ints w b [i]) := h2
  have HR : Hid (∀ w, Calls Tryz.prog 140 #[.agg #[.int .i64 1, .int .i64 x, .int .i64 0, .int .i64 0], .agg #[.int .i64 i, .int .i64 0, .int .i64 0]] w fun e w' => e = .returned (.int .i64 P) ∧ ∃ o p, w' = (w.alloc o).alloc p) := by
    intro w
    rw [← hP]
    exact reck_1_ext x i w
  clear h1 h2 hP
  go_enter Tryz.func103, Tryz.ntmps103
  go_wp2_with fail
  refine (ext_1_ok x _ _ _ H1.out (by omega) x1).mono ?_
  rintro e w1 ⟨rfl, hb⟩
  have HB : Hid (Below w.heap.size w w1) := hb
  have hcp : (Builtin.copy_ #[27, 27] 3 #[.slice (some ⟨w1.heap.size + 1, 0, none⟩) 3 3, .slice b 1 d]).run Tryz.prog ((w1.alloc (.cells #[.int .i64 1, .int .i64 x, .int .i64 0, .int .i64 0] 112)).alloc (.cells #[.int .i64 0, .int .i64 0, .int .i64 0] 110)) = .ok (.int .i64 1) ((w1.alloc (.cells #[.int .i64 1, .int .i64 x, .int .i64 0, .int .i64 0] 112)).alloc (.cells #[.int .i64 i, .int .i64 0, .int .i64 0] 110)) := by
    have q := copy_in ((H2.out.keep hb).alloc (.cells #[.int .i64 1, .int .i64 x, .int .i64 0, .int .i64 0] 112)) 3 110 d (by simp)
    rw [show (w1.alloc (.cells #[.int .i64 1, .int .i64 x, .int .i64 0, .int .i64 0] 112)).heap.size = w1.heap.size + 1 by simp] at q
    exact q
  clear hb
  go_wp2_with fail
  refine (HR.out _).mono ?_
  rintro e w3 ⟨rfl, o, p, hw⟩
  subst w3
  go_wp2_with fail
  refine (idx_1_neg x P _ q1).mono ?_
  rintro e w2 ⟨rfl, o0, o1, o2, hw⟩
  subst w2
  go_wp2
  go_ret
  exact ⟨rfl, by repeat first | exact HB.out | refine bAlloc ?_ _⟩
set_option maxRecDepth 20000 in
set_option maxHeartbeats 2000000 in
theorem place_1_much (x : Int) (i : Int) (P : Int) (a b : Option Addr) (c d : Nat) (w : World) (h1 : Ints w a [x]) (h2 : Ints w b [i]) (hP : wrap64 i = P) (x0 : 0 ≤ x) (x1 : x ≤ 300) (q1 : 0 ≤ P) (q2 : x ≤ P) :
    Calls Tryz.prog 103 #[.slice a 1 c, .slice b 1 d] w fun e w' => e = .returned (.int .i64 (-1)) ∧ Below w.heap.size w w' := by
  have H1 : Hid (Ints w a [x]) := h1
  have H2 : Hid (Ints w b [i]) := h2
  have HR : Hid (∀ w, Calls Tryz.prog 140 #[.agg #[.int .i64 1, .int .i64 x, .int .i64 0, .int .i64 0], .agg #[.int .i64 i, .int .i64 0, .int .i64 0]] w fun e w' => e = .returned (.int .i64 P) ∧ ∃ o p, w' = (w.alloc o).alloc p) := by
    intro w
    rw [← hP]
    exact reck_1_ext x i w
  clear h1 h2 hP
  go_enter Tryz.func103, Tryz.ntmps103
  go_wp2_with fail
  refine (ext_1_ok x _ _ _ H1.out (by omega) x1).mono ?_
  rintro e w1 ⟨rfl, hb⟩
  have HB : Hid (Below w.heap.size w w1) := hb
  have hcp : (Builtin.copy_ #[27, 27] 3 #[.slice (some ⟨w1.heap.size + 1, 0, none⟩) 3 3, .slice b 1 d]).run Tryz.prog ((w1.alloc (.cells #[.int .i64 1, .int .i64 x, .int .i64 0, .int .i64 0] 112)).alloc (.cells #[.int .i64 0, .int .i64 0, .int .i64 0] 110)) = .ok (.int .i64 1) ((w1.alloc (.cells #[.int .i64 1, .int .i64 x, .int .i64 0, .int .i64 0] 112)).alloc (.cells #[.int .i64 i, .int .i64 0, .int .i64 0] 110)) := by
    have q := copy_in ((H2.out.keep hb).alloc (.cells #[.int .i64 1, .int .i64 x, .int .i64 0, .int .i64 0] 112)) 3 110 d (by simp)
    rw [show (w1.alloc (.cells #[.int .i64 1, .int .i64 x, .int .i64 0, .int .i64 0] 112)).heap.size = w1.heap.size + 1 by simp] at q
    exact q
  clear hb
  go_wp2_with fail
  refine (HR.out _).mono ?_
  rintro e w3 ⟨rfl, o, p, hw⟩
  subst w3
  go_wp2_with fail
  refine (idx_1_much x P _ x0 x1 q1 q2).mono ?_
  rintro e w2 ⟨rfl, o0, o1, o2, o3, hw⟩
  subst w2
  go_wp2
  go_ret
  exact ⟨rfl, by repeat first | exact HB.out | refine bAlloc ?_ _⟩
set_option maxRecDepth 20000 in
set_option maxHeartbeats 2000000 in
theorem place_2_hit (x y : Int) (i j : Int) (i' j' : Int) (P : Int) (a b : Option Addr) (c d : Nat) (w : World) (h1 : Ints w a [x, y]) (h2 : Ints w b [i, j]) (hP : wrap64 (wrap64 (wrap64 i * y) + j) = P) (x0 : 0 < x) (x1 : x ≤ 300) (y0 : 0 < y) (y1 : y ≤ 300) (hp : x * y ≤ 300) (q1 : 0 ≤ P) (q2 : P < x * y) (e0 : P / y % x = i') (e1 : P % y = j') (hB : (i' == i && (j' == j && ((0 : Int) == 0))) = true) :
    Calls Tryz.prog 103 #[.slice a 2 c, .slice b 2 d] w fun e w' => e = .returned (.int .i64 P) ∧ Below w.heap.size w w' := by
  have H1 : Hid (Ints w a [x, y]) := h1
  have H2 : Hid (Ints w b [i, j]) := h2
  have HR : Hid (∀ w, Calls Tryz.prog 140 #[.agg #[.int .i64 2, .int .i64 x, .int .i64 y, .int .i64 0], .agg #[.int .i64 i, .int .i64 j, .int .i64 0]] w fun e w' => e = .returned (.int .i64 P) ∧ ∃ o p, w' = (w.alloc o).alloc p) := by
    intro w
    rw [← hP]
    exact reck_2_ext x y i j w
  have HE0 : Hid (P / y % x = i') := e0
  have HE1 : Hid (P % y = j') := e1
  have heq : ∀ w, (Op.equalIn 10000 110 (.agg #[.int .i64 i', .int .i64 j', .int .i64 0]) (.agg #[.int .i64 i, .int .i64 j, .int .i64 0])).run Tryz.prog w = .ok true w := fun w => by rw [eq_axes, hB]
  clear hB e0 e1
  clear h1 h2 hP
  go_enter Tryz.func103, Tryz.ntmps103
  go_wp2_with fail
  refine (ext_2_ok x y _ _ _ H1.out (by omega) x1 (by omega) y1 hp).mono ?_
  rintro e w1 ⟨rfl, hb⟩
  have HB : Hid (Below w.heap.size w w1) := hb
  have hcp : (Builtin.copy_ #[27, 27] 3 #[.slice (some ⟨w1.heap.size + 1, 0, none⟩) 3 3, .slice b 2 d]).run Tryz.prog ((w1.alloc (.cells #[.int .i64 2, .int .i64 x, .int .i64 y, .int .i64 0] 112)).alloc (.cells #[.int .i64 0, .int .i64 0, .int .i64 0] 110)) = .ok (.int .i64 2) ((w1.alloc (.cells #[.int .i64 2, .int .i64 x, .int .i64 y, .int .i64 0] 112)).alloc (.cells #[.int .i64 i, .int .i64 j, .int .i64 0] 110)) := by
    have q := copy_in ((H2.out.keep hb).alloc (.cells #[.int .i64 2, .int .i64 x, .int .i64 y, .int .i64 0] 112)) 3 110 d (by simp)
    rw [show (w1.alloc (.cells #[.int .i64 2, .int .i64 x, .int .i64 y, .int .i64 0] 112)).heap.size = w1.heap.size + 1 by simp] at q
    exact q
  clear hb
  go_wp2_with fail
  refine (HR.out _).mono ?_
  rintro e w3 ⟨rfl, o, p, hw⟩
  subst w3
  go_wp2_with fail
  refine (idx_2_in x y P _ x0 x1 y0 y1 q1 q2 (by omega)).mono ?_
  rintro e w2 ⟨rfl, o0, o1, o2, o3, hw⟩
  subst w2
  rw [HE0.out, HE1.out]
  go_wp2
  go_ret
  exact ⟨rfl, by repeat first | exact HB.out | refine bAlloc ?_ _⟩
set_option maxRecDepth 20000 in
set_option maxHeartbeats 2000000 in
theorem place_2_miss (x y : Int) (i j : Int) (i' j' : Int) (P : Int) (a b : Option Addr) (c d : Nat) (w : World) (h1 : Ints w a [x, y]) (h2 : Ints w b [i, j]) (hP : wrap64 (wrap64 (wrap64 i * y) + j) = P) (x0 : 0 < x) (x1 : x ≤ 300) (y0 : 0 < y) (y1 : y ≤ 300) (hp : x * y ≤ 300) (q1 : 0 ≤ P) (q2 : P < x * y) (e0 : P / y % x = i') (e1 : P % y = j') (hB : (i' == i && (j' == j && ((0 : Int) == 0))) = false) :
    Calls Tryz.prog 103 #[.slice a 2 c, .slice b 2 d] w fun e w' => e = .returned (.int .i64 (-1)) ∧ Below w.heap.size w w' := by
  have H1 : Hid (Ints w a [x, y]) := h1
  have H2 : Hid (Ints w b [i, j]) := h2
  have HR : Hid (∀ w, Calls Tryz.prog 140 #[.agg #[.int .i64 2, .int .i64 x, .int .i64 y, .int .i64 0], .agg #[.int .i64 i, .int .i64 j, .int .i64 0]] w fun e w' => e = .returned (.int .i64 P) ∧ ∃ o p, w' = (w.alloc o).alloc p) := by
    intro w
    rw [← hP]
    exact reck_2_ext x y i j w
  have HE0 : Hid (P / y % x = i') := e0
  have HE1 : Hid (P % y = j') := e1
  have heq : ∀ w, (Op.equalIn 10000 110 (.agg #[.int .i64 i', .int .i64 j', .int .i64 0]) (.agg #[.int .i64 i, .int .i64 j, .int .i64 0])).run Tryz.prog w = .ok false w := fun w => by rw [eq_axes, hB]
  clear hB e0 e1
  clear h1 h2 hP
  go_enter Tryz.func103, Tryz.ntmps103
  go_wp2_with fail
  refine (ext_2_ok x y _ _ _ H1.out (by omega) x1 (by omega) y1 hp).mono ?_
  rintro e w1 ⟨rfl, hb⟩
  have HB : Hid (Below w.heap.size w w1) := hb
  have hcp : (Builtin.copy_ #[27, 27] 3 #[.slice (some ⟨w1.heap.size + 1, 0, none⟩) 3 3, .slice b 2 d]).run Tryz.prog ((w1.alloc (.cells #[.int .i64 2, .int .i64 x, .int .i64 y, .int .i64 0] 112)).alloc (.cells #[.int .i64 0, .int .i64 0, .int .i64 0] 110)) = .ok (.int .i64 2) ((w1.alloc (.cells #[.int .i64 2, .int .i64 x, .int .i64 y, .int .i64 0] 112)).alloc (.cells #[.int .i64 i, .int .i64 j, .int .i64 0] 110)) := by
    have q := copy_in ((H2.out.keep hb).alloc (.cells #[.int .i64 2, .int .i64 x, .int .i64 y, .int .i64 0] 112)) 3 110 d (by simp)
    rw [show (w1.alloc (.cells #[.int .i64 2, .int .i64 x, .int .i64 y, .int .i64 0] 112)).heap.size = w1.heap.size + 1 by simp] at q
    exact q
  clear hb
  go_wp2_with fail
  refine (HR.out _).mono ?_
  rintro e w3 ⟨rfl, o, p, hw⟩
  subst w3
  go_wp2_with fail
  refine (idx_2_in x y P _ x0 x1 y0 y1 q1 q2 (by omega)).mono ?_
  rintro e w2 ⟨rfl, o0, o1, o2, o3, hw⟩
  subst w2
  rw [HE0.out, HE1.out]
  go_wp2
  go_ret
  exact ⟨rfl, by repeat first | exact HB.out | refine bAlloc ?_ _⟩
set_option maxRecDepth 20000 in
set_option maxHeartbeats 2000000 in
theorem place_2_neg (x y : Int) (i j : Int) (P : Int) (a b : Option Addr) (c d : Nat) (w : World) (h1 : Ints w a [x, y]) (h2 : Ints w b [i, j]) (hP : wrap64 (wrap64 (wrap64 i * y) + j) = P) (x0 : 0 ≤ x) (x1 : x ≤ 300) (y0 : 0 ≤ y) (y1 : y ≤ 300) (hp : x * y ≤ 300) (q1 : P < 0) :
    Calls Tryz.prog 103 #[.slice a 2 c, .slice b 2 d] w fun e w' => e = .returned (.int .i64 (-1)) ∧ Below w.heap.size w w' := by
  have H1 : Hid (Ints w a [x, y]) := h1
  have H2 : Hid (Ints w b [i, j]) := h2
  have HR : Hid (∀ w, Calls Tryz.prog 140 #[.agg #[.int .i64 2, .int .i64 x, .int .i64 y, .int .i64 0], .agg #[.int .i64 i, .int .i64 j, .int .i64 0]] w fun e w' => e = .returned (.int .i64 P) ∧ ∃ o p, w' = (w.alloc o).alloc p) := by
    intro w
    rw [← hP]
    exact reck_2_ext x y i j w
  clear h1 h2 hP
  go_enter Tryz.func103, Tryz.ntmps103
  go_wp2_with fail
  refine (ext_2_ok x y _ _ _ H1.out (by omega) x1 (by omega) y1 hp).mono ?_
  rintro e w1 ⟨rfl, hb⟩
  have HB : Hid (Below w.heap.size w w1) := hb
  have hcp : (Builtin.copy_ #[27, 27] 3 #[.slice (some ⟨w1.heap.size + 1, 0, none⟩) 3 3, .slice b 2 d]).run Tryz.prog ((w1.alloc (.cells #[.int .i64 2, .int .i64 x, .int .i64 y, .int .i64 0] 112)).alloc (.cells #[.int .i64 0, .int .i64 0, .int .i64 0] 110)) = .ok (.int .i64 2) ((w1.alloc (.cells #[.int .i64 2, .int .i64 x, .int .i64 y, .int .i64 0] 112)).alloc (.cells #[.int .i64 i, .int .i64 j, .int .i64 0] 110)) := by
    have q := copy_in ((H2.out.keep hb).alloc (.cells #[.int .i64 2, .int .i64 x, .int .i64 y, .int .i64 0] 112)) 3 110 d (by simp)
    rw [show (w1.alloc (.cells #[.int .i64 2, .int .i64 x, .int .i64 y, .int .i64 0] 112)).heap.size = w1.heap.size + 1 by simp] at q
    exact q
  clear hb
  go_wp2_with fail
  refine (HR.out _).mono ?_
  rintro e w3 ⟨rfl, o, p, hw⟩
  subst w3
  go_wp2_with fail
  refine (idx_2_neg x y P _ q1).mono ?_
  rintro e w2 ⟨rfl, o0, o1, o2, hw⟩
  subst w2
  go_wp2
  go_ret
  exact ⟨rfl, by repeat first | exact HB.out | refine bAlloc ?_ _⟩
set_option maxRecDepth 20000 in
set_option maxHeartbeats 2000000 in
theorem place_2_much (x y : Int) (i j : Int) (P : Int) (a b : Option Addr) (c d : Nat) (w : World) (h1 : Ints w a [x, y]) (h2 : Ints w b [i, j]) (hP : wrap64 (wrap64 (wrap64 i * y) + j) = P) (x0 : 0 ≤ x) (x1 : x ≤ 300) (y0 : 0 ≤ y) (y1 : y ≤ 300) (hp : x * y ≤ 300) (q1 : 0 ≤ P) (q2 : x * y ≤ P) :
    Calls Tryz.prog 103 #[.slice a 2 c, .slice b 2 d] w fun e w' => e = .returned (.int .i64 (-1)) ∧ Below w.heap.size w w' := by
  have H1 : Hid (Ints w a [x, y]) := h1
  have H2 : Hid (Ints w b [i, j]) := h2
  have HR : Hid (∀ w, Calls Tryz.prog 140 #[.agg #[.int .i64 2, .int .i64 x, .int .i64 y, .int .i64 0], .agg #[.int .i64 i, .int .i64 j, .int .i64 0]] w fun e w' => e = .returned (.int .i64 P) ∧ ∃ o p, w' = (w.alloc o).alloc p) := by
    intro w
    rw [← hP]
    exact reck_2_ext x y i j w
  clear h1 h2 hP
  go_enter Tryz.func103, Tryz.ntmps103
  go_wp2_with fail
  refine (ext_2_ok x y _ _ _ H1.out (by omega) x1 (by omega) y1 hp).mono ?_
  rintro e w1 ⟨rfl, hb⟩
  have HB : Hid (Below w.heap.size w w1) := hb
  have hcp : (Builtin.copy_ #[27, 27] 3 #[.slice (some ⟨w1.heap.size + 1, 0, none⟩) 3 3, .slice b 2 d]).run Tryz.prog ((w1.alloc (.cells #[.int .i64 2, .int .i64 x, .int .i64 y, .int .i64 0] 112)).alloc (.cells #[.int .i64 0, .int .i64 0, .int .i64 0] 110)) = .ok (.int .i64 2) ((w1.alloc (.cells #[.int .i64 2, .int .i64 x, .int .i64 y, .int .i64 0] 112)).alloc (.cells #[.int .i64 i, .int .i64 j, .int .i64 0] 110)) := by
    have q := copy_in ((H2.out.keep hb).alloc (.cells #[.int .i64 2, .int .i64 x, .int .i64 y, .int .i64 0] 112)) 3 110 d (by simp)
    rw [show (w1.alloc (.cells #[.int .i64 2, .int .i64 x, .int .i64 y, .int .i64 0] 112)).heap.size = w1.heap.size + 1 by simp] at q
    exact q
  clear hb
  go_wp2_with fail
  refine (HR.out _).mono ?_
  rintro e w3 ⟨rfl, o, p, hw⟩
  subst w3
  go_wp2_with fail
  refine (idx_2_much x y P _ x0 x1 y0 y1 q1 q2).mono ?_
  rintro e w2 ⟨rfl, o0, o1, o2, o3, hw⟩
  subst w2
  go_wp2
  go_ret
  exact ⟨rfl, by repeat first | exact HB.out | refine bAlloc ?_ _⟩
set_option maxRecDepth 20000 in
set_option maxHeartbeats 2000000 in
theorem place_3_hit (x y z : Int) (i j k : Int) (i' j' k' : Int) (P : Int) (a b : Option Addr) (c d : Nat) (w : World) (h1 : Ints w a [x, y, z]) (h2 : Ints w b [i, j, k]) (hP : wrap64 (wrap64 (wrap64 (wrap64 (wrap64 i * y) + j) * z) + k) = P) (x0 : 0 < x) (x1 : x ≤ 300) (y0 : 0 < y) (y1 : y ≤ 300) (z0 : 0 < z) (z1 : z ≤ 300) (hp : x * y * z ≤ 300) (q1 : 0 ≤ P) (q2 : P < x * y * z) (e0 : P / z / y % x = i') (e1 : P / z % y = j') (e2 : P % z = k') (hB : (i' == i && (j' == j && (k' == k))) = true) :
    Calls Tryz.prog 103 #[.slice a 3 c, .slice b 3 d] w fun e w' => e = .returned (.int .i64 P) ∧ Below w.heap.size w w' := by
  have H1 : Hid (Ints w a [x, y, z]) := h1
  have H2 : Hid (Ints w b [i, j, k]) := h2
  have HR : Hid (∀ w, Calls Tryz.prog 140 #[.agg #[.int .i64 3, .int .i64 x, .int .i64 y, .int .i64 z], .agg #[.int .i64 i, .int .i64 j, .int .i64 k]] w fun e w' => e = .returned (.int .i64 P) ∧ ∃ o p, w' = (w.alloc o).alloc p) := by
    intro w
    rw [← hP]
    exact reck_3_ext x y z i j k w
  have HE0 : Hid (P / z / y % x = i') := e0
  have HE1 : Hid (P / z % y = j') := e1
  have HE2 : Hid (P % z = k') := e2
  have heq : ∀ w, (Op.equalIn 10000 110 (.agg #[.int .i64 i', .int .i64 j', .int .i64 k']) (.agg #[.int .i64 i, .int .i64 j, .int .i64 k])).run Tryz.prog w = .ok true w := fun w => by rw [eq_axes, hB]
  clear hB e0 e1 e2
  clear h1 h2 hP
  go_enter Tryz.func103, Tryz.ntmps103
  go_wp2_with fail
  refine (ext_3_ok x y z _ _ _ H1.out (by omega) x1 (by omega) y1 (by omega) z1 hp).mono ?_
  rintro e w1 ⟨rfl, hb⟩
  have HB : Hid (Below w.heap.size w w1) := hb
  have hcp : (Builtin.copy_ #[27, 27] 3 #[.slice (some ⟨w1.heap.size + 1, 0, none⟩) 3 3, .slice b 3 d]).run Tryz.prog ((w1.alloc (.cells #[.int .i64 3, .int .i64 x, .int .i64 y, .int .i64 z] 112)).alloc (.cells #[.int .i64 0, .int .i64 0, .int .i64 0] 110)) = .ok (.int .i64 3) ((w1.alloc (.cells #[.int .i64 3, .int .i64 x, .int .i64 y, .int .i64 z] 112)).alloc (.cells #[.int .i64 i, .int .i64 j, .int .i64 k] 110)) := by
    have q := copy_in ((H2.out.keep hb).alloc (.cells #[.int .i64 3, .int .i64 x, .int .i64 y, .int .i64 z] 112)) 3 110 d (by simp)
    rw [show (w1.alloc (.cells #[.int .i64 3, .int .i64 x, .int .i64 y, .int .i64 z] 112)).heap.size = w1.heap.size + 1 by simp] at q
    exact q
  clear hb
  go_wp2_with fail
  refine (HR.out _).mono ?_
  rintro e w3 ⟨rfl, o, p, hw⟩
  subst w3
  go_wp2_with fail
  refine (idx_3_in x y z P _ x0 x1 y0 y1 z0 z1 q1 q2 (by omega)).mono ?_
  rintro e w2 ⟨rfl, o0, o1, o2, o3, hw⟩
  subst w2
  rw [HE0.out, HE1.out, HE2.out]
  go_wp2
  go_ret
  exact ⟨rfl, by repeat first | exact HB.out | refine bAlloc ?_ _⟩
set_option maxRecDepth 20000 in
set_option maxHeartbeats 2000000 in
theorem place_3_miss (x y z : Int) (i j k : Int) (i' j' k' : Int) (P : Int) (a b : Option Addr) (c d : Nat) (w : World) (h1 : Ints w a [x, y, z]) (h2 : Ints w b [i, j, k]) (hP : wrap64 (wrap64 (wrap64 (wrap64 (wrap64 i * y) + j) * z) + k) = P) (x0 : 0 < x) (x1 : x ≤ 300) (y0 : 0 < y) (y1 : y ≤ 300) (z0 : 0 < z) (z1 : z ≤ 300) (hp : x * y * z ≤ 300) (q1 : 0 ≤ P) (q2 : P < x * y * z) (e0 : P / z / y % x = i') (e1 : P / z % y = j') (e2 : P % z = k') (hB : (i' == i && (j' == j && (k' == k))) = false) :
    Calls Tryz.prog 103 #[.slice a 3 c, .slice b 3 d] w fun e w' => e = .returned (.int .i64 (-1)) ∧ Below w.heap.size w w' := by
  have H1 : Hid (Ints w a [x, y, z]) := h1
  have H2 : Hid (Ints w b [i, j, k]) := h2
  have HR : Hid (∀ w, Calls Tryz.prog 140 #[.agg #[.int .i64 3, .int .i64 x, .int .i64 y, .int .i64 z], .agg #[.int .i64 i, .int .i64 j, .int .i64 k]] w fun e w' => e = .returned (.int .i64 P) ∧ ∃ o p, w' = (w.alloc o).alloc p) := by
    intro w
    rw [← hP]
    exact reck_3_ext x y z i j k w
  have HE0 : Hid (P / z / y % x = i') := e0
  have HE1 : Hid (P / z % y = j') := e1
  have HE2 : Hid (P % z = k') := e2
  have heq : ∀ w, (Op.equalIn 10000 110 (.agg #[.int .i64 i', .int .i64 j', .int .i64 k']) (.agg #[.int .i64 i, .int .i64 j, .int .i64 k])).run Tryz.prog w = .ok false w := fun w => by rw [eq_axes, hB]
  clear hB e0 e1 e2
  clear h1 h2 hP
  go_enter Tryz.func103, Tryz.ntmps103
  go_wp2_with fail
  refine (ext_3_ok x y z _ _ _ H1.out (by omega) x1 (by omega) y1 (by omega) z1 hp).mono ?_
  rintro e w1 ⟨rfl, hb⟩
  have HB : Hid (Below w.heap.size w w1) := hb
  have hcp : (Builtin.copy_ #[27, 27] 3 #[.slice (some ⟨w1.heap.size + 1, 0, none⟩) 3 3, .slice b 3 d]).run Tryz.prog ((w1.alloc (.cells #[.int .i64 3, .int .i64 x, .int .i64 y, .int .i64 z] 112)).alloc (.cells #[.int .i64 0, .int .i64 0, .int .i64 0] 110)) = .ok (.int .i64 3) ((w1.alloc (.cells #[.int .i64 3, .int .i64 x, .int .i64 y, .int .i64 z] 112)).alloc (.cells #[.int .i64 i, .int .i64 j, .int .i64 k] 110)) := by
    have q := copy_in ((H2.out.keep hb).alloc (.cells #[.int .i64 3, .int .i64 x, .int .i64 y, .int .i64 z] 112)) 3 110 d (by simp)
    rw [show (w1.alloc (.cells #[.int .i64 3, .int .i64 x, .int .i64 y, .int .i64 z] 112)).heap.size = w1.heap.size + 1 by simp] at q
    exact q
  clear hb
  go_wp2_with fail
  refine (HR.out _).mono ?_
  rintro e w3 ⟨rfl, o, p, hw⟩
  subst w3
  go_wp2_with fail
  refine (idx_3_in x y z P _ x0 x1 y0 y1 z0 z1 q1 q2 (by omega)).mono ?_
  rintro e w2 ⟨rfl, o0, o1, o2, o3, hw⟩
  subst w2
  rw [HE0.out, HE1.out, HE2.out]
  go_wp2
  go_ret
  exact ⟨rfl, by repeat first | exact HB.out | refine bAlloc ?_ _⟩
set_option maxRecDepth 20000 in
set_option maxHeartbeats 2000000 in
theorem place_3_neg (x y z : Int) (i j k : Int) (P : Int) (a b : Option Addr) (c d : Nat) (w : World) (h1 : Ints w a [x, y, z]) (h2 : Ints w b [i, j, k]) (hP : wrap64 (wrap64 (wrap64 (wrap64 (wrap64 i * y) + j) * z) + k) = P) (x0 : 0 ≤ x) (x1 : x ≤ 300) (y0 : 0 ≤ y) (y1 : y ≤ 300) (z0 : 0 ≤ z) (z1 : z ≤ 300) (hp : x * y * z ≤ 300) (q1 : P < 0) :
    Calls Tryz.prog 103 #[.slice a 3 c, .slice b 3 d] w fun e w' => e = .returned (.int .i64 (-1)) ∧ Below w.heap.size w w' := by
  have H1 : Hid (Ints w a [x, y, z]) := h1
  have H2 : Hid (Ints w b [i, j, k]) := h2
  have HR : Hid (∀ w, Calls Tryz.prog 140 #[.agg #[.int .i64 3, .int .i64 x, .int .i64 y, .int .i64 z], .agg #[.int .i64 i, .int .i64 j, .int .i64 k]] w fun e w' => e = .returned (.int .i64 P) ∧ ∃ o p, w' = (w.alloc o).alloc p) := by
    intro w
    rw [← hP]
    exact reck_3_ext x y z i j k w
  clear h1 h2 hP
  go_enter Tryz.func103, Tryz.ntmps103
  go_wp2_with fail
  refine (ext_3_ok x y z _ _ _ H1.out (by omega) x1 (by omega) y1 (by omega) z1 hp).mono ?_
  rintro e w1 ⟨rfl, hb⟩
  have HB : Hid (Below w.heap.size w w1) := hb
  have hcp : (Builtin.copy_ #[27, 27] 3 #[.slice (some ⟨w1.heap.size + 1, 0, none⟩) 3 3, .slice b 3 d]).run Tryz.prog ((w1.alloc (.cells #[.int .i64 3, .int .i64 x, .int .i64 y, .int .i64 z] 112)).alloc (.cells #[.int .i64 0, .int .i64 0, .int .i64 0] 110)) = .ok (.int .i64 3) ((w1.alloc (.cells #[.int .i64 3, .int .i64 x, .int .i64 y, .int .i64 z] 112)).alloc (.cells #[.int .i64 i, .int .i64 j, .int .i64 k] 110)) := by
    have q := copy_in ((H2.out.keep hb).alloc (.cells #[.int .i64 3, .int .i64 x, .int .i64 y, .int .i64 z] 112)) 3 110 d (by simp)
    rw [show (w1.alloc (.cells #[.int .i64 3, .int .i64 x, .int .i64 y, .int .i64 z] 112)).heap.size = w1.heap.size + 1 by simp] at q
    exact q
  clear hb
  go_wp2_with fail
  refine (HR.out _).mono ?_
  rintro e w3 ⟨rfl, o, p, hw⟩
  subst w3
  go_wp2_with fail
  refine (idx_3_neg x y z P _ q1).mono ?_
  rintro e w2 ⟨rfl, o0, o1, o2, hw⟩
  subst w2
  go_wp2
  go_ret
  exact ⟨rfl, by repeat first | exact HB.out | refine bAlloc ?_ _⟩
set_option maxRecDepth 20000 in
set_option maxHeartbeats 2000000 in
theorem place_3_much (x y z : Int) (i j k : Int) (P : Int) (a b : Option Addr) (c d : Nat) (w : World) (h1 : Ints w a [x, y, z]) (h2 : Ints w b [i, j, k]) (hP : wrap64 (wrap64 (wrap64 (wrap64 (wrap64 i * y) + j) * z) + k) = P) (x0 : 0 ≤ x) (x1 : x ≤ 300) (y0 : 0 ≤ y) (y1 : y ≤ 300) (z0 : 0 ≤ z) (z1 : z ≤ 300) (hp : x * y * z ≤ 300) (q1 : 0 ≤ P) (q2 : x * y * z ≤ P) :
    Calls Tryz.prog 103 #[.slice a 3 c, .slice b 3 d] w fun e w' => e = .returned (.int .i64 (-1)) ∧ Below w.heap.size w w' := by
  have H1 : Hid (Ints w a [x, y, z]) := h1
  have H2 : Hid (Ints w b [i, j, k]) := h2
  have HR : Hid (∀ w, Calls Tryz.prog 140 #[.agg #[.int .i64 3, .int .i64 x, .int .i64 y, .int .i64 z], .agg #[.int .i64 i, .int .i64 j, .int .i64 k]] w fun e w' => e = .returned (.int .i64 P) ∧ ∃ o p, w' = (w.alloc o).alloc p) := by
    intro w
    rw [← hP]
    exact reck_3_ext x y z i j k w
  clear h1 h2 hP
  go_enter Tryz.func103, Tryz.ntmps103
  go_wp2_with fail
  refine (ext_3_ok x y z _ _ _ H1.out (by omega) x1 (by omega) y1 (by omega) z1 hp).mono ?_
  rintro e w1 ⟨rfl, hb⟩
  have HB : Hid (Below w.heap.size w w1) := hb
  have hcp : (Builtin.copy_ #[27, 27] 3 #[.slice (some ⟨w1.heap.size + 1, 0, none⟩) 3 3, .slice b 3 d]).run Tryz.prog ((w1.alloc (.cells #[.int .i64 3, .int .i64 x, .int .i64 y, .int .i64 z] 112)).alloc (.cells #[.int .i64 0, .int .i64 0, .int .i64 0] 110)) = .ok (.int .i64 3) ((w1.alloc (.cells #[.int .i64 3, .int .i64 x, .int .i64 y, .int .i64 z] 112)).alloc (.cells #[.int .i64 i, .int .i64 j, .int .i64 k] 110)) := by
    have q := copy_in ((H2.out.keep hb).alloc (.cells #[.int .i64 3, .int .i64 x, .int .i64 y, .int .i64 z] 112)) 3 110 d (by simp)
    rw [show (w1.alloc (.cells #[.int .i64 3, .int .i64 x, .int .i64 y, .int .i64 z] 112)).heap.size = w1.heap.size + 1 by simp] at q
    exact q
  clear hb
  go_wp2_with fail
  refine (HR.out _).mono ?_
  rintro e w3 ⟨rfl, o, p, hw⟩
  subst w3
  go_wp2_with fail
  refine (idx_3_much x y z P _ x0 x1 y0 y1 z0 z1 q1 q2).mono ?_
  rintro e w2 ⟨rfl, o0, o1, o2, o3, hw⟩
  subst w2
  go_wp2
  go_ret
  exact ⟨rfl, by repeat first | exact HB.out | refine bAlloc ?_ _⟩
end Go.Proofs.YtkhcphkdcjimiaaGreat
