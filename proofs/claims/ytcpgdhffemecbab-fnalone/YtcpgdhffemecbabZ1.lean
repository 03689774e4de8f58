/-
  Several walks, one behind the other: ImplPlace, ImplShape, CutI, ImplArr1, ImplArr2, ImplArr3, ImplMake1, ImplMake3, MakeP, ImplMake5, LookC, CopyL, ImplCopy1, Ones, Twos, Two, ImplEach0, ImplEach1, ImplEach2, ImplMap, ImplAlike, ImplSame, ImplFit, ImplEach3.
-/
import Derived.Test.YtcpgdhffemecbabImplShape0
import Derived.Laws.StructEq
import Derived.Test.YtcpgdhffemecbabMakeM
import Derived.Test.YtcpgdhffemecbabLaw3
import Derived.Test.YtcpgdhffemecbabEachP
import Derived.Test.YtcpgdhffemecbabAppend
import Derived.Laws.CopyOwn
import Derived.Test.YtcpgdhffemecbabArrM
import Derived.Test.YtcpgdhffemecbabArr
import Derived.Test.YtcpgdhffemecbabNumOk
import Derived.Test.YtcpgdhffemecbabSpecArr2
import Derived.Test.YtcpgdhffemecbabArrs
import Derived.Shelf.Abstract
import Derived.Test.YtcpgdhffemecbabGrow
import Derived.Test.YtcpgdhffemecbabSmall
import Derived.Laws.Tables
import Derived.DeepKeys4
import Derived.WideKeyEntry
import Derived.RegionTactic
import Derived.ChangeAlike
import Derived.Test.YtcpgdhffemecbabEachM
namespace Go.Proofs.Ytcpgdhffemecbab
open Go.RowKit
set_option linter.unusedVariables false
/-- Arrays of three numbers, compared as a whole. -/
theorem eq_axes (w : World) (i j k i' j' k' : Int) : (Op.equalIn 10000 88 (.agg #[.int .i64 i, .int .i64 j, .int .i64 k]) (.agg #[.int .i64 i', .int .i64 j', .int .i64 k'])).run Try.prog w = .ok (i == i' && (j == j' && k == k')) w := by
  have hs : (sizeOf 3).run Try.prog w = .ok 1 w := by kernel_rfl
  have p0 : ∀ a b c : Int, (part 3 #[.int .i64 a, .int .i64 b, .int .i64 c] 0).run Try.prog w = .ok (.int .i64 a) w := fun a b c => by kernel_rfl
  have p1 : ∀ a b c : Int, (part 3 #[.int .i64 a, .int .i64 b, .int .i64 c] 1).run Try.prog w = .ok (.int .i64 b) w := fun a b c => by kernel_rfl
  have p2 : ∀ a b c : Int, (part 3 #[.int .i64 a, .int .i64 b, .int .i64 c] 2).run Try.prog w = .ok (.int .i64 c) w := fun a b c => by kernel_rfl
  have ei : ∀ a b : Int, (Op.equalIn (9998 + 1) 3 (.int .i64 a) (.int .i64 b)).run Try.prog w = .ok (a == b) w := fun a b => run_equalIn_int w 9998 3 .i64 .i64 a b Try.underlying3
  show (Op.equalIn (9998 + 1 + 1) 88 _ _).run Try.prog w = _
  rw [Op.equalIn]
  generalize 9998 + 1 = d at ei ⊢
  simp only [Sem.run_bind, run_underlying Try.underlying88, Result.andThen_ok, hs]
  simp only [Std.Legacy.Range.forIn_eq_forIn_range', Std.Legacy.Range.size, List.range', Nat.sub_zero, Nat.add_sub_cancel, Nat.div_one, List.forIn_cons, List.forIn_nil, Sem.run_bind]
  cases h0 : i == i' <;> cases h1 : j == j' <;> cases h2 : k == k' <;> simp [p0, p1, p2, ei, h0, h1, h2]
theorem newInts_2 (w : World) (A : Obj) (l : List Int) {B : Nat} (hB : B ≤ w.heap.size) (hl : l.length ≤ 1073741824) : NewInts B ((w.alloc A).alloc (.cells (vals l) 3)) (.slice (some ⟨w.heap.size + 1, 0, none⟩) l.length l.length) l := by
  have e : (w.alloc A).heap.size = w.heap.size + 1 := by simp
  rw [← e]
  exact newInts_alloc (w.alloc A) l (by omega) hl
set_option maxRecDepth 20000 in
set_option maxHeartbeats 2000000 in
theorem index_0_impl (p : Int) (a : Option Addr) (c : Nat) (w : World) (h1 : Ints w a [])  (q1 : 0 ≤ p) (q2 : p < 1)  :
    Calls Try.prog 97 #[.slice a 0 c, .int .i64 p] w fun e w' => ∃ v, e = .returned v ∧ NewInts w.heap.size w' v [] ∧ Below w.heap.size w w' := by
  have H1 : Hid (Ints w a []) := h1
  clear h1
  have hmk : ∀ w, (Instr.makeSlice 24 (.int .i64 0) (.int .i64 0)).run Try.prog w = .ok (.slice (some ⟨w.heap.size, 0, none⟩) 0 0) (w.alloc (.cells #[] 3)) := fun w => make_ints 0 (by omega) w
  go_enter Try.func97, Try.ntmps97
  go_wp2_with fail
  refine (ext_0_ok  _ _ _ H1.out ).mono ?_
  rintro e w1 ⟨rfl, hb⟩
  have HB : Hid (Below w.heap.size w w1) := hb
  clear hb
  go_wp2_with fail
  refine (idx_0_in  p _  q1 q2 (by omega)).mono ?_
  rintro e w2 ⟨rfl, o0, o1, o2, o3, hw⟩
  have HB2 : Hid (Below w.heap.size w w2) := by rw [hw]; exact bTrans (bAlloc HB.out _) (kept4 _ _ _ _ _ _)
  have hc : ∀ o : Obj, (w2.alloc o).cell? ⟨w1.heap.size, 0, none⟩ = some (.int .i64 0) := by
    intro o
    rw [hw, (bAlloc (kept4 w1 _ o0 o1 o2 o3) o).cell (p := ⟨w1.heap.size, 0, none⟩) (by simp)]
    exact cell_new _ _ _ rfl
  clear hw
  have hcp : (Builtin.copy_ #[24, 24] 3 #[.slice (some ⟨w2.heap.size + 1, 0, none⟩) 0 0, .slice (some ⟨w2.heap.size, 0, none⟩) 3 3]).run Try.prog ((w2.alloc (.cells #[.int .i64 0, .int .i64 0, .int .i64 0] 88)).alloc (.cells #[] 3)) = .ok (.int .i64 0) ((w2.alloc (.cells #[.int .i64 0, .int .i64 0, .int .i64 0] 88)).alloc (.cells #[] 3)) := copy_out w2 3 88 [.int .i64 0, .int .i64 0, .int .i64 0] [] 0 (by omega) rfl rfl (by simp [Value.oneCell'])
  go_wp2
  go_ret
  exact ⟨_, rfl, newInts_2 w2 _ [] HB2.out.size (by simp), bAlloc (bAlloc HB2.out _) _⟩
set_option maxRecDepth 20000 in
set_option maxHeartbeats 2000000 in
theorem index_1_impl (x : Int) (i : Int) (p : Int) (a : Option Addr) (c : Nat) (w : World) (h1 : Ints w a [x]) (x0 : 0 < x) (x1 : x ≤ 300) (q1 : 0 ≤ p) (q2 : p < x) (e0 : p % x = i) :
    Calls Try.prog 97 #[.slice a 1 c, .int .i64 p] w fun e w' => ∃ v, e = .returned v ∧ NewInts w.heap.size w' v [i] ∧ Below w.heap.size w w' := by
  have H1 : Hid (Ints w a [x]) := h1
  clear h1
  have HE0 : Hid (p % x = i) := e0
  clear e0
  have hmk : ∀ w, (Instr.makeSlice 24 (.int .i64 1) (.int .i64 1)).run Try.prog w = .ok (.slice (some ⟨w.heap.size, 0, none⟩) 1 1) (w.alloc (.cells #[.int .i64 0] 3)) := fun w => make_ints 1 (by omega) w
  go_enter Try.func97, Try.ntmps97
  go_wp2_with fail
  refine (ext_1_ok x _ _ _ H1.out (by omega) x1).mono ?_
  rintro e w1 ⟨rfl, hb⟩
  have HB : Hid (Below w.heap.size w w1) := hb
  clear hb
  go_wp2_with fail
  refine (idx_1_in x p _ x0 x1 q1 q2 (by omega)).mono ?_
  rintro e w2 ⟨rfl, o0, o1, o2, o3, hw⟩
  have HB2 : Hid (Below w.heap.size w w2) := by rw [hw]; exact bTrans (bAlloc HB.out _) (kept4 _ _ _ _ _ _)
  have hc : ∀ o : Obj, (w2.alloc o).cell? ⟨w1.heap.size, 0, none⟩ = some (.int .i64 1) := by
    intro o
    rw [hw, (bAlloc (kept4 w1 _ o0 o1 o2 o3) o).cell (p := ⟨w1.heap.size, 0, none⟩) (by simp)]
    exact cell_new _ _ _ rfl
  clear hw
  rw [HE0.out]
  have hcp : (Builtin.copy_ #[24, 24] 3 #[.slice (some ⟨w2.heap.size + 1, 0, none⟩) 1 1, .slice (some ⟨w2.heap.size, 0, none⟩) 3 3]).run Try.prog ((w2.alloc (.cells #[.int .i64 i, .int .i64 0, .int .i64 0] 88)).alloc (.cells #[.int .i64 0] 3)) = .ok (.int .i64 1) ((w2.alloc (.cells #[.int .i64 i, .int .i64 0, .int .i64 0] 88)).alloc (.cells #[.int .i64 i] 3)) := copy_out w2 3 88 [.int .i64 i, .int .i64 0, .int .i64 0] [.int .i64 0] 1 (by omega) rfl rfl (by simp [Value.oneCell'])
  go_wp2
  go_ret
  exact ⟨_, rfl, newInts_2 w2 _ [i] HB2.out.size (by simp), bAlloc (bAlloc HB2.out _) _⟩
set_option maxRecDepth 20000 in
set_option maxHeartbeats 2000000 in
theorem index_2_impl (x y : Int) (i j : Int) (p : Int) (a : Option Addr) (c : Nat) (w : World) (h1 : Ints w a [x, y]) (x0 : 0 < x) (x1 : x ≤ 300) (y0 : 0 < y) (y1 : y ≤ 300) (hp : x * y ≤ 300) (q1 : 0 ≤ p) (q2 : p < x * y) (e0 : p / y % x = i) (e1 : p % y = j) :
    Calls Try.prog 97 #[.slice a 2 c, .int .i64 p] w fun e w' => ∃ v, e = .returned v ∧ NewInts w.heap.size w' v [i, j] ∧ Below w.heap.size w w' := by
  have H1 : Hid (Ints w a [x, y]) := h1
  clear h1
  have HE0 : Hid (p / y % x = i) := e0
  clear e0
  have HE1 : Hid (p % y = j) := e1
  clear e1
  have hmk : ∀ w, (Instr.makeSlice 24 (.int .i64 2) (.int .i64 2)).run Try.prog w = .ok (.slice (some ⟨w.heap.size, 0, none⟩) 2 2) (w.alloc (.cells #[.int .i64 0, .int .i64 0] 3)) := fun w => make_ints 2 (by omega) w
  go_enter Try.func97, Try.ntmps97
  go_wp2_with fail
  refine (ext_2_ok x y _ _ _ H1.out (by omega) x1 (by omega) y1 hp).mono ?_
  rintro e w1 ⟨rfl, hb⟩
  have HB : Hid (Below w.heap.size w w1) := hb
  clear hb
  go_wp2_with fail
  refine (idx_2_in x y p _ x0 x1 y0 y1 q1 q2 (by omega)).mono ?_
  rintro e w2 ⟨rfl, o0, o1, o2, o3, hw⟩
  have HB2 : Hid (Below w.heap.size w w2) := by rw [hw]; exact bTrans (bAlloc HB.out _) (kept4 _ _ _ _ _ _)
  have hc : ∀ o : Obj, (w2.alloc o).cell? ⟨w1.heap.size, 0, none⟩ = some (.int .i64 2) := by
    intro o
    rw [hw, (bAlloc (kept4 w1 _ o0 o1 o2 o3) o).cell (p := ⟨w1.heap.size, 0, none⟩) (by simp)]
    exact cell_new _ _ _ rfl
  clear hw
  rw [HE0.out, HE1.out]
  have hcp : (Builtin.copy_ #[24, 24] 3 #[.slice (some ⟨w2.heap.size + 1, 0, none⟩) 2 2, .slice (some ⟨w2.heap.size, 0, none⟩) 3 3]).run Try.prog ((w2.alloc (.cells #[.int .i64 i, .int .i64 j, .int .i64 0] 88)).alloc (.cells #[.int .i64 0, .int .i64 0] 3)) = .ok (.int .i64 2) ((w2.alloc (.cells #[.int .i64 i, .int .i64 j, .int .i64 0] 88)).alloc (.cells #[.int .i64 i, .int .i64 j] 3)) := copy_out w2 3 88 [.int .i64 i, .int .i64 j, .int .i64 0] [.int .i64 0, .int .i64 0] 2 (by omega) rfl rfl (by simp [Value.oneCell'])
  go_wp2
  go_ret
  exact ⟨_, rfl, newInts_2 w2 _ [i, j] HB2.out.size (by simp), bAlloc (bAlloc HB2.out _) _⟩
set_option maxRecDepth 20000 in
set_option maxHeartbeats 2000000 in
theorem index_3_impl (x y z : Int) (i j k : Int) (p : Int) (a : Option Addr) (c : Nat) (w : World) (h1 : Ints w a [x, y, z]) (x0 : 0 < x) (x1 : x ≤ 300) (y0 : 0 < y) (y1 : y ≤ 300) (z0 : 0 < z) (z1 : z ≤ 300) (hp : x * y * z ≤ 300) (q1 : 0 ≤ p) (q2 : p < x * y * z) (e0 : p / z / y % x = i) (e1 : p / z % y = j) (e2 : p % z = k) :
    Calls Try.prog 97 #[.slice a 3 c, .int .i64 p] w fun e w' => ∃ v, e = .returned v ∧ NewInts w.heap.size w' v [i, j, k] ∧ Below w.heap.size w w' := by
  have H1 : Hid (Ints w a [x, y, z]) := h1
  clear h1
  have HE0 : Hid (p / z / y % x = i) := e0
  clear e0
  have HE1 : Hid (p / z % y = j) := e1
  clear e1
  have HE2 : Hid (p % z = k) := e2
  clear e2
  have hmk : ∀ w, (Instr.makeSlice 24 (.int .i64 3) (.int .i64 3)).run Try.prog w = .ok (.slice (some ⟨w.heap.size, 0, none⟩) 3 3) (w.alloc (.cells #[.int .i64 0, .int .i64 0, .int .i64 0] 3)) := fun w => make_ints 3 (by omega) w
  go_enter Try.func97, Try.ntmps97
  go_wp2_with fail
  refine (ext_3_ok x y z _ _ _ H1.out (by omega) x1 (by omega) y1 (by omega) z1 hp).mono ?_
  rintro e w1 ⟨rfl, hb⟩
  have HB : Hid (Below w.heap.size w w1) := hb
  clear hb
  go_wp2_with fail
  refine (idx_3_in x y z p _ x0 x1 y0 y1 z0 z1 q1 q2 (by omega)).mono ?_
  rintro e w2 ⟨rfl, o0, o1, o2, o3, hw⟩
  have HB2 : Hid (Below w.heap.size w w2) := by rw [hw]; exact bTrans (bAlloc HB.out _) (kept4 _ _ _ _ _ _)
  have hc : ∀ o : Obj, (w2.alloc o).cell? ⟨w1.heap.size, 0, none⟩ = some (.int .i64 3) := by
    intro o
    rw [hw, (bAlloc (kept4 w1 _ o0 o1 o2 o3) o).cell (p := ⟨w1.heap.size, 0, none⟩) (by simp)]
    exact cell_new _ _ _ rfl
  clear hw
  rw [HE0.out, HE1.out, HE2.out]
  have hcp : (Builtin.copy_ #[24, 24] 3 #[.slice (some ⟨w2.heap.size + 1, 0, none⟩) 3 3, .slice (some ⟨w2.heap.size, 0, none⟩) 3 3]).run Try.prog ((w2.alloc (.cells #[.int .i64 i, .int .i64 j, .int .i64 k] 88)).alloc (.cells #[.int .i64 0, .int .i64 0, .int .i64 0] 3)) = .ok (.int .i64 3) ((w2.alloc (.cells #[.int .i64 i, .int .i64 j, .int .i64 k] 88)).alloc (.cells #[.int .i64 i, .int .i64 j, .int .i64 k] 3)) := copy_out w2 3 88 [.int .i64 i, .int .i64 j, .int .i64 k] [.int .i64 0, .int .i64 0, .int .i64 0] 3 (by omega) rfl rfl (by simp [Value.oneCell'])
  go_wp2
  go_ret
  exact ⟨_, rfl, newInts_2 w2 _ [i, j, k] HB2.out.size (by simp), bAlloc (bAlloc HB2.out _) _⟩
set_option maxRecDepth 20000 in
set_option maxHeartbeats 2000000 in
theorem place_0_hit (P : Int) (a b : Option Addr) (c d : Nat) (w : World) (h1 : Ints w a []) (h2 : Ints w b []) (hP : 0 = P)  (q1 : 0 ≤ P) (q2 : P < 1)  (hB : ((0 : Int) == 0 && ((0 : Int) == 0 && ((0 : Int) == 0))) = true) :
    Calls Try.prog 98 #[.slice a 0 c, .slice b 0 d] w fun e w' => e = .returned (.int .i64 P) ∧ Below w.heap.size w w' := by
  have H1 : Hid (Ints w a []) := h1
  have H2 : Hid (Ints w b []) := h2
  have HR : Hid (∀ w, Calls Try.prog 125 #[.agg #[.int .i64 0, .int .i64 0, .int .i64 0, .int .i64 0], .agg #[.int .i64 0, .int .i64 0, .int .i64 0]] w fun e w' => e = .returned (.int .i64 P) ∧ ∃ o p, w' = (w.alloc o).alloc p) := by
    intro w
    rw [← hP]
    exact reck_0_ext   w
  have heq : ∀ w, (Op.equalIn 10000 88 (.agg #[.int .i64 0, .int .i64 0, .int .i64 0]) (.agg #[.int .i64 0, .int .i64 0, .int .i64 0])).run Try.prog w = .ok true w := fun w => by rw [eq_axes, hB]
  clear hB
  clear h1 h2 hP
  go_enter Try.func98, Try.ntmps98
  go_wp2_with fail
  refine (ext_0_ok  _ _ _ H1.out ).mono ?_
  rintro e w1 ⟨rfl, hb⟩
  have HB : Hid (Below w.heap.size w w1) := hb
  have hcp : (Builtin.copy_ #[24, 24] 3 #[.slice (some ⟨w1.heap.size + 1, 0, none⟩) 3 3, .slice b 0 d]).run Try.prog ((w1.alloc (.cells #[.int .i64 0, .int .i64 0, .int .i64 0, .int .i64 0] 90)).alloc (.cells #[.int .i64 0, .int .i64 0, .int .i64 0] 88)) = .ok (.int .i64 0) ((w1.alloc (.cells #[.int .i64 0, .int .i64 0, .int .i64 0, .int .i64 0] 90)).alloc (.cells #[.int .i64 0, .int .i64 0, .int .i64 0] 88)) := by
    have q := copy_in ((H2.out.keep hb).alloc (.cells #[.int .i64 0, .int .i64 0, .int .i64 0, .int .i64 0] 90)) 3 88 d (by simp)
    rw [show (w1.alloc (.cells #[.int .i64 0, .int .i64 0, .int .i64 0, .int .i64 0] 90)).heap.size = w1.heap.size + 1 by simp] at q
    exact q
  clear hb
  go_wp2_with fail
  refine (HR.out _).mono ?_
  rintro e w3 ⟨rfl, o, p, hw⟩
  subst w3
  go_wp2_with fail
  refine (idx_0_in  P _  q1 q2 (by omega)).mono ?_
  rintro e w2 ⟨rfl, o0, o1, o2, o3, hw⟩
  subst w2
  go_wp2
  go_ret
  exact ⟨rfl, by repeat first | exact HB.out | refine bAlloc ?_ _⟩
set_option maxRecDepth 20000 in
set_option maxHeartbeats 2000000 in
theorem place_1_hit (x : Int) (i : Int) (i' : Int) (P : Int) (a b : Option Addr) (c d : Nat) (w : World) (h1 : Ints w a [x]) (h2 : Ints w b [i]) (hP : wrap64 i = P) (x0 : 0 < x) (x1 : x ≤ 300) (q1 : 0 ≤ P) (q2 : P < x) (e0 : P % x = i') (hB : (i' == i && ((0 : Int) == 0 && ((0 : Int) == 0))) = true) :
    Calls Try.prog 98 #[.slice a 1 c, .slice b 1 d] w fun e w' => e = .returned (.int .i64 P) ∧ Below w.heap.size w w' := by
  have H1 : Hid (Ints w a [x]) := h1
  have H2 : Hid (Ints w b [i]) := h2
  have HR : Hid (∀ w, Calls Try.prog 125 #[.agg #[.int .i64 1, .int .i64 x, .int .i64 0, .int .i64 0], .agg #[.int .i64 i, .int .i64 0, .int .i64 0]] w fun e w' => e = .returned (.int .i64 P) ∧ ∃ o p, w' = (w.alloc o).alloc p) := by
    intro w
    rw [← hP]
    exact reck_1_ext x i w
  have HE0 : Hid (P % x = i') := e0
  have heq : ∀ w, (Op.equalIn 10000 88 (.agg #[.int .i64 i', .int .i64 0, .int .i64 0]) (.agg #[.int .i64 i, .int .i64 0, .int .i64 0])).run Try.prog w = .ok true w := fun w => by rw [eq_axes, hB]
  clear hB e0
  clear h1 h2 hP
  go_enter Try.func98, Try.ntmps98
  go_wp2_with fail
  refine (ext_1_ok x _ _ _ H1.out (by omega) x1).mono ?_
  rintro e w1 ⟨rfl, hb⟩
  have HB : Hid (Below w.heap.size w w1) := hb
  have hcp : (Builtin.copy_ #[24, 24] 3 #[.slice (some ⟨w1.heap.size + 1, 0, none⟩) 3 3, .slice b 1 d]).run Try.prog ((w1.alloc (.cells #[.int .i64 1, .int .i64 x, .int .i64 0, .int .i64 0] 90)).alloc (.cells #[.int .i64 0, .int .i64 0, .int .i64 0] 88)) = .ok (.int .i64 1) ((w1.alloc (.cells #[.int .i64 1, .int .i64 x, .int .i64 0, .int .i64 0] 90)).alloc (.cells #[.int .i64 i, .int .i64 0, .int .i64 0] 88)) := by
    have q := copy_in ((H2.out.keep hb).alloc (.cells #[.int .i64 1, .int .i64 x, .int .i64 0, .int .i64 0] 90)) 3 88 d (by simp)
    rw [show (w1.alloc (.cells #[.int .i64 1, .int .i64 x, .int .i64 0, .int .i64 0] 90)).heap.size = w1.heap.size + 1 by simp] at q
    exact q
  clear hb
  go_wp2_with fail
  refine (HR.out _).mono ?_
  rintro e w3 ⟨rfl, o, p, hw⟩
  subst w3
  go_wp2_with fail
  refine (idx_1_in x P _ x0 x1 q1 q2 (by omega)).mono ?_
  rintro e w2 ⟨rfl, o0, o1, o2, o3, hw⟩
  subst w2
  rw [HE0.out]
  go_wp2
  go_ret
  exact ⟨rfl, by repeat first | exact HB.out | refine bAlloc ?_ _⟩
set_option maxRecDepth 20000 in
set_option maxHeartbeats 2000000 in
theorem place_1_miss (x : Int) (i : Int) (i' : Int) (P : Int) (a b : Option Addr) (c d : Nat) (w : World) (h1 : Ints w a [x]) (h2 : Ints w b [i]) (hP : wrap64 i = P) (x0 : 0 < x) (x1 : x ≤ 300) (q1 : 0 ≤ P) (q2 : P < x) (e0 : P % x = i') (hB : (i' == i && ((0 : Int) == 0 && ((0 : Int) == 0))) = false) :
    Calls Try.prog 98 #[.slice a 1 c, .slice b 1 d] w fun e w' => e = .returned (.int .i64 (-1)) ∧ Below w.heap.size w w' := by
  have H1 : Hid (Ints w a [x]) := h1
  have H2 : Hid (Ints w b [i]) := h2
  have HR : Hid (∀ w, Calls Try.prog 125 #[.agg #[.int .i64 1, .int .i64 x, .int .i64 0, .int .i64 0], .agg #[.int .i64 i, .int .i64 0, .int .i64 0]] w fun e w' => e = .returned (.int .i64 P) ∧ ∃ o p, w' = (w.alloc o).alloc p) := by
    intro w
    rw [← hP]
    exact reck_1_ext x i w
  have HE0 : Hid (P % x = i') := e0
  have heq : ∀ w, (Op.equalIn 10000 88 (.agg #[.int .i64 i', .int .i64 0, .int .i64 0]) (.agg #[.int .i64 i, .int .i64 0, .int .i64 0])).run Try.prog w = .ok false w := fun w => by rw [eq_axes, hB]
  clear hB e0
  clear h1 h2 hP
  go_enter Try.func98, Try.ntmps98
  go_wp2_with fail
  refine (ext_1_ok x _ _ _ H1.out (by omega) x1).mono ?_
  rintro e w1 ⟨rfl, hb⟩
  have HB : Hid (Below w.heap.size w w1) := hb
  have hcp : (Builtin.copy_ #[24, 24] 3 #[.slice (some ⟨w1.heap.size + 1, 0, none⟩) 3 3, .slice b 1 d]).run Try.prog ((w1.alloc (.cells #[.int .i64 1, .int .i64 x, .int .i64 0, .int .i64 0] 90)).alloc (.cells #[.int .i64 0, .int .i64 0, .int .i64 0] 88)) = .ok (.int .i64 1) ((w1.alloc (.cells #[.int .i64 1, .int .i64 x, .int .i64 0, .int .i64 0] 90)).alloc (.cells #[.int .i64 i, .int .i64 0, .int .i64 0] 88)) := by
    have q := copy_in ((H2.out.keep hb).alloc (.cells #[.int .i64 1, .int .i64 x, .int .i64 0, .int .i64 0] 90)) 3 88 d (by simp)
    rw [show (w1.alloc (.cells #[.int .i64 1, .int .i64 x, .int .i64 0, .int .i64 0] 90)).heap.size = w1.heap.size + 1 by simp] at q
    exact q
  clear hb
  go_wp2_with fail
  refine (HR.out _).mono ?_
  rintro e w3 ⟨rfl, o, p, hw⟩
  subst w3
  go_wp2_with fail
  refine (idx_1_in x P _ x0 x1 q1 q2 (by omega)).mono ?_
  rintro e w2 ⟨rfl, o0, o1, o2, o3, hw⟩
  subst w2
  rw [HE0.out]
  go_wp2
  go_ret
  exact ⟨rfl, by repeat first | exact HB.out | refine bAlloc ?_ _⟩
set_option maxRecDepth 20000 in
set_option maxHeartbeats 2000000 in
theorem place_1_neg (x : Int) (i : Int) (P : Int) (a b : Option Addr) (c d : Nat) (w : World) (h1 : Ints w a [x]) (h2 : Ints w b [i]) (hP : wrap64 i = P) (x0 : 0 ≤ x) (x1 : x ≤ 300) (q1 : P < 0) :
    Calls Try.prog 98 #[.slice a 1 c, .slice b 1 d] w fun e w' => e = .returned (.int .i64 (-1)) ∧ Below w.heap.size w w' := by
  have H1 : Hid (Ints w a [x]) := h1
  have H2 : Hid (Ints w b [i]) := h2
  have HR : Hid (∀ w, Calls Try.prog 125 #[.agg #[.int .i64 1, .int .i64 x, .int .i64 0, .int .i64 0], .agg #[.int .i64 i, .int .i64 0, .int .i64 0]] w fun e w' => e = .returned (.int .i64 P) ∧ ∃ o p, w' = (w.alloc o).alloc p) := by
    intro w
    rw [← hP]
    exact reck_1_ext x i w
  clear h1 h2 hP
  go_enter Try.func98, Try.ntmps98
  go_wp2_with fail
  refine (ext_1_ok x _ _ _ H1.out (by omega) x1).mono ?_
  rintro e w1 ⟨rfl, hb⟩
  have HB : Hid (Below w.heap.size w w1) := hb
  have hcp : (Builtin.copy_ #[24, 24] 3 #[.slice (some ⟨w1.heap.size + 1, 0, none⟩) 3 3, .slice b 1 d]).run Try.prog ((w1.alloc (.cells #[.int .i64 1, .int .i64 x, .int .i64 0, .int .i64 0] 90)).alloc (.cells #[.int .i64 0, .int .i64 0, .int .i64 0] 88)) = .ok (.int .i64 1) ((w1.alloc (.cells #[.int .i64 1, .int .i64 x, .int .i64 0, .int .i64 0] 90)).alloc (.cells #[.int .i64 i, .int .i64 0, .int .i64 0] 88)) := by
    have q := copy_in ((H2.out.keep hb).alloc (.cells #[.int .i64 1, .int .i64 x, .int .i64 0, .int .i64 0] 90)) 3 88 d (by simp)
    rw [show (w1.alloc (.cells #[.int .i64 1, .int .i64 x, .int .i64 0, .int .i64 0] 90)).heap.size = w1.heap.size + 1 by simp] at q
    exact q
  clear hb
  go_wp2_with fail
  refine (HR.out _).mono ?_
  rintro e w3 ⟨rfl, o, p, hw⟩
  subst w3
  go_wp2_with fail
  refine (idx_1_neg x P _ q1).mono ?_
  rintro e w2 ⟨rfl, o0, o1, o2, hw⟩
  subst w2
  go_wp2
  go_ret
  exact ⟨rfl, by repeat first | exact HB.out | refine bAlloc ?_ _⟩
set_option maxRecDepth 20000 in
set_option maxHeartbeats 2000000 in
theorem place_1_much (x : Int) (i : Int) (P : Int) (a b : Option Addr) (c d : Nat) (w : World) (h1 : Ints w a [x]) (h2 : Ints w b [i]) (hP : wrap64 i = P) (x0 : 0 ≤ x) (x1 : x ≤ 300) (q1 : 0 ≤ P) (q2 : x ≤ P) :
    Calls Try.prog 98 #[.slice a 1 c, .slice b 1 d] w fun e w' => e = .returned (.int .i64 (-1)) ∧ Below w.heap.size w w' := by
  have H1 : Hid (Ints w a [x]) := h1
  have H2 : Hid (Ints w b [i]) := h2
  have HR : Hid (∀ w, Calls Try.prog 125 #[.agg #[.int .i64 1, .int .i64 x, .int .i64 0, .int .i64 0], .agg #[.int .i64 i, .int .i64 0, .int .i64 0]] w fun e w' => e = .returned (.int .i64 P) ∧ ∃ o p, w' = (w.alloc o).alloc p) := by
    intro w
    rw [← hP]
    exact reck_1_ext x i w
  clear h1 h2 hP
  go_enter Try.func98, Try.ntmps98
  go_wp2_with fail
  refine (ext_1_ok x _ _ _ H1.out (by omega) x1).mono ?_
  rintro e w1 ⟨rfl, hb⟩
  have HB : Hid (Below w.heap.size w w1) := hb
  have hcp : (Builtin.copy_ #[24, 24] 3 #[.slice (some ⟨w1.heap.size + 1, 0, none⟩) 3 3, .slice b 1 d]).run Try.prog ((w1.alloc (.cells #[.int .i64 1, .int .i64 x, .int .i64 0, .int .i64 0] 90)).alloc (.cells #[.int .i64 0, .int .i64 0, .int .i64 0] 88)) = .ok (.int .i64 1) ((w1.alloc (.cells #[.int .i64 1, .int .i64 x, .int .i64 0, .int .i64 0] 90)).alloc (.cells #[.int .i64 i, .int .i64 0, .int .i64 0] 88)) := by
    have q := copy_in ((H2.out.keep hb).alloc (.cells #[.int .i64 1, .int .i64 x, .int .i64 0, .int .i64 0] 90)) 3 88 d (by simp)
    rw [show (w1.alloc (.cells #[.int .i64 1, .int .i64 x, .int .i64 0, .int .i64 0] 90)).heap.size = w1.heap.size + 1 by simp] at q
    exact q
  clear hb
  go_wp2_with fail
  refine (HR.out _).mono ?_
  rintro e w3 ⟨rfl, o, p, hw⟩
  subst w3
  go_wp2_with fail
  refine (idx_1_much x P _ x0 x1 q1 q2).mono ?_
  rintro e w2 ⟨rfl, o0, o1, o2, o3, hw⟩
  subst w2
  go_wp2
  go_ret
  exact ⟨rfl, by repeat first | exact HB.out | refine bAlloc ?_ _⟩
set_option maxRecDepth 20000 in
set_option maxHeartbeats 2000000 in
theorem place_2_hit (x y : Int) (i j : Int) (i' j' : Int) (P : Int) (a b : Option Addr) (c d : Nat) (w : World) (h1 : Ints w a [x, y]) (h2 : Ints w b [i, j]) (hP : wrap64 (wrap64 (wrap64 i * y) + j) = P) (x0 : 0 < x) (x1 : x ≤ 300) (y0 : 0 < y) (y1 : y ≤ 300) (hp : x * y ≤ 300) (q1 : 0 ≤ P) (q2 : P < x * y) (e0 : P / y % x = i') (e1 : P % y = j') (hB : (i' == i && (j' == j && ((0 : Int) == 0))) = true) :
    Calls Try.prog 98 #[.slice a 2 c, .slice b 2 d] w fun e w' => e = .returned (.int .i64 P) ∧ Below w.heap.size w w' := by
  have H1 : Hid (Ints w a [x, y]) := h1
  have H2 : Hid (Ints w b [i, j]) := h2
  have HR : Hid (∀ w, Calls Try.prog 125 #[.agg #[.int .i64 2, .int .i64 x, .int .i64 y, .int .i64 0], .agg #[.int .i64 i, .int .i64 j, .int .i64 0]] w fun e w' => e = .returned (.int .i64 P) ∧ ∃ o p, w' = (w.alloc o).alloc p) := by
    intro w
    rw [← hP]
    exact reck_2_ext x y i j w
  have HE0 : Hid (P / y % x = i') := e0
  have HE1 : Hid (P % y = j') := e1
  have heq : ∀ w, (Op.equalIn 10000 88 (.agg #[.int .i64 i', .int .i64 j', .int .i64 0]) (.agg #[.int .i64 i, .int .i64 j, .int .i64 0])).run Try.prog w = .ok true w := fun w => by rw [eq_axes, hB]
  clear hB e0 e1
  clear h1 h2 hP
  go_enter Try.func98, Try.ntmps98
  go_wp2_with fail
  refine (ext_2_ok x y _ _ _ H1.out (by omega) x1 (by omega) y1 hp).mono ?_
  rintro e w1 ⟨rfl, hb⟩
  have HB : Hid (Below w.heap.size w w1) := hb
  have hcp : (Builtin.copy_ #[24, 24] 3 #[.slice (some ⟨w1.heap.size + 1, 0, none⟩) 3 3, .slice b 2 d]).run Try.prog ((w1.alloc (.cells #[.int .i64 2, .int .i64 x, .int .i64 y, .int .i64 0] 90)).alloc (.cells #[.int .i64 0, .int .i64 0, .int .i64 0] 88)) = .ok (.int .i64 2) ((w1.alloc (.cells #[.int .i64 2, .int .i64 x, .int .i64 y, .int .i64 0] 90)).alloc (.cells #[.int .i64 i, .int .i64 j, .int .i64 0] 88)) := by
    have q := copy_in ((H2.out.keep hb).alloc (.cells #[.int .i64 2, .int .i64 x, .int .i64 y, .int .i64 0] 90)) 3 88 d (by simp)
    rw [show (w1.alloc (.cells #[.int .i64 2, .int .i64 x, .int .i64 y, .int .i64 0] 90)).heap.size = w1.heap.size + 1 by simp] at q
    exact q
  clear hb
  go_wp2_with fail
  refine (HR.out _).mono ?_
  rintro e w3 ⟨rfl, o, p, hw⟩
  subst w3
  go_wp2_with fail
  refine (idx_2_in x y P _ x0 x1 y0 y1 q1 q2 (by omega)).mono ?_
  rintro e w2 ⟨rfl, o0, o1, o2, o3, hw⟩
  subst w2
  rw [HE0.out, HE1.out]
  go_wp2
  go_ret
  exact ⟨rfl, by repeat first | exact HB.out | refine bAlloc ?_ _⟩
set_option maxRecDepth 20000 in
set_option maxHeartbeats 2000000 in
theorem place_2_miss (x y : Int) (i j : Int) (i' j' : Int) (P : Int) (a b : Option Addr) (c d : Nat) (w : World) (h1 : Ints w a [x, y]) (h2 : Ints w b [i, j]) (hP : wrap64 (wrap64 (wrap64 i * y) + j) = P) (x0 : 0 < x) (x1 : x ≤ 300) (y0 : 0 < y) (y1 : y ≤ 300) (hp : x * y ≤ 300) (q1 : 0 ≤ P) (q2 : P < x * y) (e0 : P / y % x = i') (e1 : P % y = j') (hB : (i' == i && (j' == j && ((0 : Int) == 0))) = false) :
    Calls Try.prog 98 #[.slice a 2 c, .slice b 2 d] w fun e w' => e = .returned (.int .i64 (-1)) ∧ Below w.heap.size w w' := by
  have H1 : Hid (Ints w a [x, y]) := h1
  have H2 : Hid (Ints w b [i, j]) := h2
  have HR : Hid (∀ w, Calls Try.prog 125 #[.agg #[.int .i64 2, .int .i64 x, .int .i64 y, .int .i64 0], .agg #[.int .i64 i, .int .i64 j, .int .i64 0]] w fun e w' => e = .returned (.int .i64 P) ∧ ∃ o p, w' = (w.alloc o).alloc p) := by
    intro w
    rw [← hP]
    exact reck_2_ext x y i j w
  have HE0 : Hid (P / y % x = i') := e0
  have HE1 : Hid (P % y = j') := e1
  have heq : ∀ w, (Op.equalIn 10000 88 (.agg #[.int .i64 i', .int .i64 j', .int .i64 0]) (.agg #[.int .i64 i, .int .i64 j, .int .i64 0])).run Try.prog w = .ok false w := fun w => by rw [eq_axes, hB]
  clear hB e0 e1
  clear h1 h2 hP
  go_enter Try.func98, Try.ntmps98
  go_wp2_with fail
  refine (ext_2_ok x y _ _ _ H1.out (by omega) x1 (by omega) y1 hp).mono ?_
  rintro e w1 ⟨rfl, hb⟩
  have HB : Hid (Below w.heap.size w w1) := hb
  have hcp : (Builtin.copy_ #[24, 24] 3 #[.slice (some ⟨w1.heap.size + 1, 0, none⟩) 3 3, .slice b 2 d]).run Try.prog ((w1.alloc (.cells #[.int .i64 2, .int .i64 x, .int .i64 y, .int .i64 0] 90)).alloc (.cells #[.int .i64 0, .int .i64 0, .int .i64 0] 88)) = .ok (.int .i64 2) ((w1.alloc (.cells #[.int .i64 2, .int .i64 x, .int .i64 y, .int .i64 0] 90)).alloc (.cells #[.int .i64 i, .int .i64 j, .int .i64 0] 88)) := by
    have q := copy_in ((H2.out.keep hb).alloc (.cells #[.int .i64 2, .int .i64 x, .int .i64 y, .int .i64 0] 90)) 3 88 d (by simp)
    rw [show (w1.alloc (.cells #[.int .i64 2, .int .i64 x, .int .i64 y, .int .i64 0] 90)).heap.size = w1.heap.size + 1 by simp] at q
    exact q
  clear hb
  go_wp2_with fail
  refine (HR.out _).mono ?_
  rintro e w3 ⟨rfl, o, p, hw⟩
  subst w3
  go_wp2_with fail
  refine (idx_2_in x y P _ x0 x1 y0 y1 q1 q2 (by omega)).mono ?_
  rintro e w2 ⟨rfl, o0, o1, o2, o3, hw⟩
  subst w2
  rw [HE0.out, HE1.out]
  go_wp2
  go_ret
  exact ⟨rfl, by repeat first | exact HB.out | refine bAlloc ?_ _⟩
set_option maxRecDepth 20000 in
set_option maxHeartbeats 2000000 in
theorem place_2_neg (x y : Int) (i j : Int) (P : Int) (a b : Option Addr) (c d : Nat) (w : World) (h1 : Ints w a [x, y]) (h2 : Ints w b [i, j]) (hP : wrap64 (wrap64 (wrap64 i * y) + j) = P) (x0 : 0 ≤ x) (x1 : x ≤ 300) (y0 : 0 ≤ y) (y1 : y ≤ 300) (hp : x * y ≤ 300) (q1 : P < 0) :
    Calls Try.prog 98 #[.slice a 2 c, .slice b 2 d] w fun e w' => e = .returned (.int .i64 (-1)) ∧ Below w.heap.size w w' := by
  have H1 : Hid (Ints w a [x, y]) := h1
  have H2 : Hid (Ints w b [i, j]) := h2
  have HR : Hid (∀ w, Calls Try.prog 125 #[.agg #[.int .i64 2, .int .i64 x, .int .i64 y, .int .i64 0], .agg #[.int .i64 i, .int .i64 j, .int .i64 0]] w fun e w' => e = .returned (.int .i64 P) ∧ ∃ o p, w' = (w.alloc o).alloc p) := by
    intro w
    rw [← hP]
    exact reck_2_ext x y i j w
  clear h1 h2 hP
  go_enter Try.func98, Try.ntmps98
  go_wp2_with fail
  refine (ext_2_ok x y _ _ _ H1.out (by omega) x1 (by omega) y1 hp).mono ?_
  rintro e w1 ⟨rfl, hb⟩
  have HB : Hid (Below w.heap.size w w1) := hb
  have hcp : (Builtin.copy_ #[24, 24] 3 #[.slice (some ⟨w1.heap.size + 1, 0, none⟩) 3 3, .slice b 2 d]).run Try.prog ((w1.alloc (.cells #[.int .i64 2, .int .i64 x, .int .i64 y, .int .i64 0] 90)).alloc (.cells #[.int .i64 0, .int .i64 0, .int .i64 0] 88)) = .ok (.int .i64 2) ((w1.alloc (.cells #[.int .i64 2, .int .i64 x, .int .i64 y, .int .i64 0] 90)).alloc (.cells #[.int .i64 i, .int .i64 j, .int .i64 0] 88)) := by
    have q := copy_in ((H2.out.keep hb).alloc (.cells #[.int .i64 2, .int .i64 x, .int .i64 y, .int .i64 0] 90)) 3 88 d (by simp)
    rw [show (w1.alloc (.cells #[.int .i64 2, .int .i64 x, .int .i64 y, .int .i64 0] 90)).heap.size = w1.heap.size + 1 by simp] at q
    exact q
  clear hb
  go_wp2_with fail
  refine (HR.out _).mono ?_
  rintro e w3 ⟨rfl, o, p, hw⟩
  subst w3
  go_wp2_with fail
  refine (idx_2_neg x y P _ q1).mono ?_
  rintro e w2 ⟨rfl, o0, o1, o2, hw⟩
  subst w2
  go_wp2
  go_ret
  exact ⟨rfl, by repeat first | exact HB.out | refine bAlloc ?_ _⟩
set_option maxRecDepth 20000 in
set_option maxHeartbeats 2000000 in
theorem place_2_much (x y : Int) (i j : Int) (P : Int) (a b : Option Addr) (c d : Nat) (w : World) (h1 : Ints w a [x, y]) (h2 : Ints w b [i, j]) (hP : wrap64 (wrap64 (wrap64 i * y) + j) = P) (x0 : 0 ≤ x) (x1 : x ≤ 300) (y0 : 0 ≤ y) (y1 : y ≤ 300) (hp : x * y ≤ 300) (q1 : 0 ≤ P) (q2 : x * y ≤ P) :
    Calls Try.prog 98 #[.slice a 2 c, .slice b 2 d] w fun e w' => e = .returned (.int .i64 (-1)) ∧ Below w.heap.size w w' := by
  have H1 : Hid (Ints w a [x, y]) := h1
  have H2 : Hid (Ints w b [i, j]) := h2
  have HR : Hid (∀ w, Calls Try.prog 125 #[.agg #[.int .i64 2, .int .i64 x, .int .i64 y, .int .i64 0], .agg #[.int .i64 i, .int .i64 j, .int .i64 0]] w fun e w' => e = .returned (.int .i64 P) ∧ ∃ o p, w' = (w.alloc o).alloc p) := by
    intro w
    rw [← hP]
    exact reck_2_ext x y i j w
  clear h1 h2 hP
  go_enter Try.func98, Try.ntmps98
  go_wp2_with fail
  refine (ext_2_ok x y _ _ _ H1.out (by omega) x1 (by omega) y1 hp).mono ?_
  rintro e w1 ⟨rfl, hb⟩
  have HB : Hid (Below w.heap.size w w1) := hb
  have hcp : (Builtin.copy_ #[24, 24] 3 #[.slice (some ⟨w1.heap.size + 1, 0, none⟩) 3 3, .slice b 2 d]).run Try.prog ((w1.alloc (.cells #[.int .i64 2, .int .i64 x, .int .i64 y, .int .i64 0] 90)).alloc (.cells #[.int .i64 0, .int .i64 0, .int .i64 0] 88)) = .ok (.int .i64 2) ((w1.alloc (.cells #[.int .i64 2, .int .i64 x, .int .i64 y, .int .i64 0] 90)).alloc (.cells #[.int .i64 i, .int .i64 j, .int .i64 0] 88)) := by
    have q := copy_in ((H2.out.keep hb).alloc (.cells #[.int .i64 2, .int .i64 x, .int .i64 y, .int .i64 0] 90)) 3 88 d (by simp)
    rw [show (w1.alloc (.cells #[.int .i64 2, .int .i64 x, .int .i64 y, .int .i64 0] 90)).heap.size = w1.heap.size + 1 by simp] at q
    exact q
  clear hb
  go_wp2_with fail
  refine (HR.out _).mono ?_
  rintro e w3 ⟨rfl, o, p, hw⟩
  subst w3
  go_wp2_with fail
  refine (idx_2_much x y P _ x0 x1 y0 y1 q1 q2).mono ?_
  rintro e w2 ⟨rfl, o0, o1, o2, o3, hw⟩
  subst w2
  go_wp2
  go_ret
  exact ⟨rfl, by repeat first | exact HB.out | refine bAlloc ?_ _⟩
set_option maxRecDepth 20000 in
set_option maxHeartbeats 2000000 in
theorem place_3_hit (x y z : Int) (i j k : Int) (i' j' k' : Int) (P : Int) (a b : Option Addr) (c d : Nat) (w : World) (h1 : Ints w a [x, y, z]) (h2 : Ints w b [i, j, k]) (hP : wrap64 (wrap64 (wrap64 (wrap64 (wrap64 i * y) + j) * z) + k) = P) (x0 : 0 < x) (x1 : x ≤ 300) (y0 : 0 < y) (y1 : y ≤ 300) (z0 : 0 < z) (z1 : z ≤ 300) (hp : x * y * z ≤ 300) (q1 : 0 ≤ P) (q2 : P < x * y * z) (e0 : P / z / y % x = i') (e1 : P / z % y = j') (e2 : P % z = k') (hB : (i' == i && (j' == j && (k' == k))) = true) :
    Calls Try.prog 98 #[.slice a 3 c, .slice b 3 d] w fun e w' => e = .returned (.int .i64 P) ∧ Below w.heap.size w w' := by
  have H1 : Hid (Ints w a [x, y, z]) := h1
  have H2 : Hid (Ints w b [i, j, k]) := h2
  have HR : Hid (∀ w, Calls Try.prog 125 #[.agg #[.int .i64 3, .int .i64 x, .int .i64 y, .int .i64 z], .agg #[.int .i64 i, .int .i64 j, .int .i64 k]] w fun e w' => e = .returned (.int .i64 P) ∧ ∃ o p, w' = (w.alloc o).alloc p) := by
    intro w
    rw [← hP]
    exact reck_3_ext x y z i j k w
  have HE0 : Hid (P / z / y % x = i') := e0
  have HE1 : Hid (P / z % y = j') := e1
  have HE2 : Hid (P % z = k') := e2
  have heq : ∀ w, (Op.equalIn 10000 88 (.agg #[.int .i64 i', .int .i64 j', .int .i64 k']) (.agg #[.int .i64 i, .int .i64 j, .int .i64 k])).run Try.prog w = .ok true w := fun w => by rw [eq_axes, hB]
  clear hB e0 e1 e2
  clear h1 h2 hP
  go_enter Try.func98, Try.ntmps98
  go_wp2_with fail
  refine (ext_3_ok x y z _ _ _ H1.out (by omega) x1 (by omega) y1 (by omega) z1 hp).mono ?_
  rintro e w1 ⟨rfl, hb⟩
  have HB : Hid (Below w.heap.size w w1) := hb
  have hcp : (Builtin.copy_ #[24, 24] 3 #[.slice (some ⟨w1.heap.size + 1, 0, none⟩) 3 3, .slice b 3 d]).run Try.prog ((w1.alloc (.cells #[.int .i64 3, .int .i64 x, .int .i64 y, .int .i64 z] 90)).alloc (.cells #[.int .i64 0, .int .i64 0, .int .i64 0] 88)) = .ok (.int .i64 3) ((w1.alloc (.cells #[.int .i64 3, .int .i64 x, .int .i64 y, .int .i64 z] 90)).alloc (.cells #[.int .i64 i, .int .i64 j, .int .i64 k] 88)) := by
    have q := copy_in ((H2.out.keep hb).alloc (.cells #[.int .i64 3, .int .i64 x, .int .i64 y, .int .i64 z] 90)) 3 88 d (by simp)
    rw [show (w1.alloc (.cells #[.int .i64 3, .int .i64 x, .int .i64 y, .int .i64 z] 90)).heap.size = w1.heap.size + 1 by simp] at q
    exact q
  clear hb
  go_wp2_with fail
  refine (HR.out _).mono ?_
  rintro e w3 ⟨rfl, o, p, hw⟩
  subst w3
  go_wp2_with fail
  refine (idx_3_in x y z P _ x0 x1 y0 y1 z0 z1 q1 q2 (by omega)).mono ?_
  rintro e w2 ⟨rfl, o0, o1, o2, o3, hw⟩
  subst w2
  rw [HE0.out, HE1.out, HE2.out]
  go_wp2
  go_ret
  exact ⟨rfl, by repeat first | exact HB.out | refine bAlloc ?_ _⟩
set_option maxRecDepth 20000 in
set_option maxHeartbeats 2000000 in
theorem place_3_miss (x y z : Int) (i j k : Int) (i' j' k' : Int) (P : Int) (a b : Option Addr) (c d : Nat) (w : World) (h1 : Ints w a [x, y, z]) (h2 : Ints w b [i, j, k]) (hP : wrap64 (wrap64 (wrap64 (wrap64 (wrap64 i * y) + j) * z) + k) = P) (x0 : 0 < x) (x1 : x ≤ 300) (y0 : 0 < y) (y1 : y ≤ 300) (z0 : 0 < z) (z1 : z ≤ 300) (hp : x * y * z ≤ 300) (q1 : 0 ≤ P) (q2 : P < x * y * z) (e0 : P / z / y % x = i') (e1 : P / z % y = j') (e2 : P % z = k') (hB : (i' == i && (j' == j && (k' == k))) = false) :
    Calls Try.prog 98 #[.slice a 3 c, .slice b 3 d] w fun e w' => e = .returned (.int .i64 (-1)) ∧ Below w.heap.size w w' := by
  have H1 : Hid (Ints w a [x, y, z]) := h1
  have H2 : Hid (Ints w b [i, j, k]) := h2
  have HR : Hid (∀ w, Calls Try.prog 125 #[.agg #[.int .i64 3, .int .i64 x, .int .i64 y, .int .i64 z], .agg #[.int .i64 i, .int .i64 j, .int .i64 k]] w fun e w' => e = .returned (.int .i64 P) ∧ ∃ o p, w' = (w.alloc o).alloc p) := by
    intro w
    rw [← hP]
    exact reck_3_ext x y z i j k w
  have HE0 : Hid (P / z / y % x = i') := e0
  have HE1 : Hid (P / z % y = j') := e1
  have HE2 : Hid (P % z = k') := e2
  have heq : ∀ w, (Op.equalIn 10000 88 (.agg #[.int .i64 i', .int .i64 j', .int .i64 k']) (.agg #[.int .i64 i, .int .i64 j, .int .i64 k])).run Try.prog w = .ok false w := fun w => by rw [eq_axes, hB]
  clear hB e0 e1 e2
  clear h1 h2 hP
  go_enter Try.func98, Try.ntmps98
  go_wp2_with fail
  refine (ext_3_ok x y z _ _ _ H1.out (by omega) x1 (by omega) y1 (by omega) z1 hp).mono ?_
  rintro e w1 ⟨rfl, hb⟩
  have HB : Hid (Below w.heap.size w w1) := hb
  have hcp : (Builtin.copy_ #[24, 24] 3 #[.slice (some ⟨w1.heap.size + 1, 0, none⟩) 3 3, .slice b 3 d]).run Try.prog ((w1.alloc (.cells #[.int .i64 3, .int .i64 x, .int .i64 y, .int .i64 z] 90)).alloc (.cells #[.int .i64 0, .int .i64 0, .int .i64 0] 88)) = .ok (.int .i64 3) ((w1.alloc (.cells #[.int .i64 3, .int .i64 x, .int .i64 y, .int .i64 z] 90)).alloc (.cells #[.int .i64 i, .int .i64 j, .int .i64 k] 88)) := by
    have q := copy_in ((H2.out.keep hb).alloc (.cells #[.int .i64 3, .int .i64 x, .int .i64 y, .int .i64 z] 90)) 3 88 d (by simp)
    rw [show (w1.alloc (.cells #[.int .i64 3, .int .i64 x, .int .i64 y, .int .i64 z] 90)).heap.size = w1.heap.size + 1 by simp] at q
    exact q
  clear hb
  go_wp2_with fail
  refine (HR.out _).mono ?_
  rintro e w3 ⟨rfl, o, p, hw⟩
  subst w3
  go_wp2_with fail
  refine (idx_3_in x y z P _ x0 x1 y0 y1 z0 z1 q1 q2 (by omega)).mono ?_
  rintro e w2 ⟨rfl, o0, o1, o2, o3, hw⟩
  subst w2
  rw [HE0.out, HE1.out, HE2.out]
  go_wp2
  go_ret
  exact ⟨rfl, by repeat first | exact HB.out | refine bAlloc ?_ _⟩
set_option maxRecDepth 20000 in
set_option maxHeartbeats 2000000 in
theorem place_3_neg (x y z : Int) (i j k : Int) (P : Int) (a b : Option Addr) (c d : Nat) (w : World) (h1 : Ints w a [x, y, z]) (h2 : Ints w b [i, j, k]) (hP : wrap64 (wrap64 (wrap64 (wrap64 (wrap64 i * y) + j) * z) + k) = P) (x0 : 0 ≤ x) (x1 : x ≤ 300) (y0 : 0 ≤ y) (y1 : y ≤ 300) (z0 : 0 ≤ z) (z1 : z ≤ 300) (hp : x * y * z ≤ 300) (q1 : P < 0) :
    Calls Try.prog 98 #[.slice a 3 c, .slice b 3 d] w fun e w' => e = .returned (.int .i64 (-1)) ∧ Below w.heap.size w w' := by
  have H1 : Hid (Ints w a [x, y, z]) := h1
  have H2 : Hid (Ints w b [i, j, k]) := h2
  have HR : Hid (∀ w, Calls Try.prog 125 #[.agg #[.int .i64 3, .int .i64 x, .int .i64 y, .int .i64 z], .agg #[.int .i64 i, .int .i64 j, .int .i64 k]] w fun e w' => e = .returned (.int .i64 P) ∧ ∃ o p, w' = (w.alloc o).alloc p) := by
    intro w
    rw [← hP]
    exact reck_3_ext x y z i j k w
  clear h1 h2 hP
  go_enter Try.func98, Try.ntmps98
  go_wp2_with fail
  refine (ext_3_ok x y z _ _ _ H1.out (by omega) x1 (by omega) y1 (by omega) z1 hp).mono ?_
  rintro e w1 ⟨rfl, hb⟩
  have HB : Hid (Below w.heap.size w w1) := hb
  have hcp : (Builtin.copy_ #[24, 24] 3 #[.slice (some ⟨w1.heap.size + 1, 0, none⟩) 3 3, .slice b 3 d]).run Try.prog ((w1.alloc (.cells #[.int .i64 3, .int .i64 x, .int .i64 y, .int .i64 z] 90)).alloc (.cells #[.int .i64 0, .int .i64 0, .int .i64 0] 88)) = .ok (.int .i64 3) ((w1.alloc (.cells #[.int .i64 3, .int .i64 x, .int .i64 y, .int .i64 z] 90)).alloc (.cells #[.int .i64 i, .int .i64 j, .int .i64 k] 88)) := by
    have q := copy_in ((H2.out.keep hb).alloc (.cells #[.int .i64 3, .int .i64 x, .int .i64 y, .int .i64 z] 90)) 3 88 d (by simp)
    rw [show (w1.alloc (.cells #[.int .i64 3, .int .i64 x, .int .i64 y, .int .i64 z] 90)).heap.size = w1.heap.size + 1 by simp] at q
    exact q
  clear hb
  go_wp2_with fail
  refine (HR.out _).mono ?_
  rintro e w3 ⟨rfl, o, p, hw⟩
  subst w3
  go_wp2_with fail
  refine (idx_3_neg x y z P _ q1).mono ?_
  rintro e w2 ⟨rfl, o0, o1, o2, hw⟩
  subst w2
  go_wp2
  go_ret
  exact ⟨rfl, by repeat first | exact HB.out | refine bAlloc ?_ _⟩
set_option maxRecDepth 20000 in
set_option maxHeartbeats 2000000 in
theorem place_3_much (x y z : Int) (i j k : Int) (P : Int) (a b : Option Addr) (c d : Nat) (w : World) (h1 : Ints w a [x, y, z]) (h2 : Ints w b [i, j, k]) (hP : wrap64 (wrap64 (wrap64 (wrap64 (wrap64 i * y) + j) * z) + k) = P) (x0 : 0 ≤ x) (x1 : x ≤ 300) (y0 : 0 ≤ y) (y1 : y ≤ 300) (z0 : 0 ≤ z) (z1 : z ≤ 300) (hp : x * y * z ≤ 300) (q1 : 0 ≤ P) (q2 : x * y * z ≤ P) :
    Calls Try.prog 98 #[.slice a 3 c, .slice b 3 d] w fun e w' => e = .returned (.int .i64 (-1)) ∧ Below w.heap.size w w' := by
  have H1 : Hid (Ints w a [x, y, z]) := h1
  have H2 : Hid (Ints w b [i, j, k]) := h2
  have HR : Hid (∀ w, Calls Try.prog 125 #[.agg #[.int .i64 3, .int .i64 x, .int .i64 y, .int .i64 z], .agg #[.int .i64 i, .int .i64 j, .int .i64 k]] w fun e w' => e = .returned (.int .i64 P) ∧ ∃ o p, w' = (w.alloc o).alloc p) := by
    intro w
    rw [← hP]
    exact reck_3_ext x y z i j k w
  clear h1 h2 hP
  go_enter Try.func98, Try.ntmps98
  go_wp2_with fail
  refine (ext_3_ok x y z _ _ _ H1.out (by omega) x1 (by omega) y1 (by omega) z1 hp).mono ?_
  rintro e w1 ⟨rfl, hb⟩
  have HB : Hid (Below w.heap.size w w1) := hb
  have hcp : (Builtin.copy_ #[24, 24] 3 #[.slice (some ⟨w1.heap.size + 1, 0, none⟩) 3 3, .slice b 3 d]).run Try.prog ((w1.alloc (.cells #[.int .i64 3, .int .i64 x, .int .i64 y, .int .i64 z] 90)).alloc (.cells #[.int .i64 0, .int .i64 0, .int .i64 0] 88)) = .ok (.int .i64 3) ((w1.alloc (.cells #[.int .i64 3, .int .i64 x, .int .i64 y, .int .i64 z] 90)).alloc (.cells #[.int .i64 i, .int .i64 j, .int .i64 k] 88)) := by
    have q := copy_in ((H2.out.keep hb).alloc (.cells #[.int .i64 3, .int .i64 x, .int .i64 y, .int .i64 z] 90)) 3 88 d (by simp)
    rw [show (w1.alloc (.cells #[.int .i64 3, .int .i64 x, .int .i64 y, .int .i64 z] 90)).heap.size = w1.heap.size + 1 by simp] at q
    exact q
  clear hb
  go_wp2_with fail
  refine (HR.out _).mono ?_
  rintro e w3 ⟨rfl, o, p, hw⟩
  subst w3
  go_wp2_with fail
  refine (idx_3_much x y z P _ x0 x1 y0 y1 z0 z1 q1 q2).mono ?_
  rintro e w2 ⟨rfl, o0, o1, o2, o3, hw⟩
  subst w2
  go_wp2
  go_ret
  exact ⟨rfl, by repeat first | exact HB.out | refine bAlloc ?_ _⟩
end Go.Proofs.Ytcpgdhffemecbab
namespace Go.Proofs.Ytcpgdhffemecbab
open Go.RowKit
set_option linter.unusedVariables false
theorem sizeV_0 : sizeV [] = 1 := by simp [sizeV, prodV]
theorem sizeV_1 (x : Int) : sizeV [x] = if 0 ≤ x ∧ x ≤ 300 then (if 300 < x then -1 else x) else -1 := by simp [sizeV, dimOk, prodV]
theorem sizeV_2 (x y : Int) : sizeV [x, y] = if (0 ≤ x ∧ x ≤ 300) ∧ 0 ≤ y ∧ y ≤ 300 then (if 300 < x * y then -1 else x * y) else -1 := by simp [sizeV, dimOk, prodV]
theorem sizeV_3 (x y z : Int) : sizeV [x, y, z] = if (0 ≤ x ∧ x ≤ 300) ∧ (0 ≤ y ∧ y ≤ 300) ∧ 0 ≤ z ∧ z ≤ 300 then (if 300 < x * y * z then -1 else x * y * z) else -1 := by simp [sizeV, dimOk, prodV]
theorem dim3 (x : Int) : x < 0 ∨ (0 ≤ x ∧ 300 < x) ∨ (0 ≤ x ∧ x ≤ 300) := by omega
/-- The numbers of a shape by value. -/
def Ext (l : List Int) (n : Nat) (x y z : Int) : Prop := n = l.length ∧ x = l.getD 0 0 ∧ y = l.getD 1 0 ∧ z = l.getD 2 0
theorem ext_bad {l : List Int} {a : Option Addr} {w : World} {c : Nat} (hs : sizeV l < 0)
    (h : Calls Try.prog 74 #[.slice a l.length c] w fun e w' => e = .returned (.tuple #[.agg #[.int .i64 0, .int .i64 0, .int .i64 0, .int .i64 0], .bool false]) ∧ Below w.heap.size w w') :
    Calls Try.prog 74 #[.slice a l.length c] w fun e w' => ∃ (n : Nat) (x y z : Int), e = .returned (.tuple #[.agg #[.int .i64 n, .int .i64 x, .int .i64 y, .int .i64 z], .bool (decide (0 ≤ sizeV l))]) ∧ (0 ≤ sizeV l → Ext l n x y z) ∧ Below w.heap.size w w' := by
  refine h.mono ?_
  rintro e w' ⟨rfl, hb⟩
  exact ⟨0, 0, 0, 0, by rw [show decide (0 ≤ sizeV l) = false by simp; omega]; rfl, fun h => by omega, hb⟩
theorem ext_good {l : List Int} {a : Option Addr} {w : World} {c n : Nat} {x y z : Int} (hs : 0 ≤ sizeV l) (he : Ext l n x y z)
    (h : Calls Try.prog 74 #[.slice a l.length c] w fun e w' => e = .returned (.tuple #[.agg #[.int .i64 n, .int .i64 x, .int .i64 y, .int .i64 z], .bool true]) ∧ Below w.heap.size w w') :
    Calls Try.prog 74 #[.slice a l.length c] w fun e w' => ∃ (n : Nat) (x y z : Int), e = .returned (.tuple #[.agg #[.int .i64 n, .int .i64 x, .int .i64 y, .int .i64 z], .bool (decide (0 ≤ sizeV l))]) ∧ (0 ≤ sizeV l → Ext l n x y z) ∧ Below w.heap.size w w' := by
  refine h.mono ?_
  rintro e w' ⟨rfl, hb⟩
  exact ⟨n, x, y, z, by rw [show decide (0 ≤ sizeV l) = true by simpa using hs], fun _ => he, hb⟩
/-- A list as a shape by value. -/
theorem ext_impl {l : List Int} {a : Option Addr} {w : World} (c : Nat) (h1 : Ints w a l) :
    Calls Try.prog 74 #[.slice a l.length c] w fun e w' => ∃ (n : Nat) (x y z : Int), e = .returned (.tuple #[.agg #[.int .i64 n, .int .i64 x, .int .i64 y, .int .i64 z], .bool (decide (0 ≤ sizeV l))]) ∧ (0 ≤ sizeV l → Ext l n x y z) ∧ Below w.heap.size w w' := by
  by_cases hl : 3 < l.length
  · exact ext_bad (by unfold sizeV; rw [if_pos hl]; decide) (ext_long l a c w hl)
  · rcases len3 (by omega : l.length ≤ 3) with rfl | ⟨x, rfl⟩ | ⟨x, y, rfl⟩ | ⟨x, y, z, rfl⟩
    · exact ext_good (n := 0) (x := 0) (y := 0) (z := 0) (by rw [sizeV_0]; decide) ⟨rfl, rfl, rfl, rfl⟩ (ext_0_ok a c w h1)
    · rcases dim3 x with hb | ⟨hb0, hb⟩ | ⟨x0, x1⟩
      · exact ext_bad (by rw [sizeV_1, if_neg (by omega)]; decide) (ext_1_neg0 x a c w h1  hb)
      · exact ext_bad (by rw [sizeV_1, if_neg (by omega)]; decide) (ext_1_great0 x a c w h1  hb0 hb)
      exact ext_good (n := 1) (x := x) (y := 0) (z := 0) (by rw [sizeV_1, if_pos (by omega), if_neg (by omega)]; exact x0) ⟨rfl, rfl, rfl, rfl⟩ (ext_1_ok x a c w h1 x0 x1)
    · rcases dim3 x with hb | ⟨hb0, hb⟩ | ⟨x0, x1⟩
      · exact ext_bad (by rw [sizeV_2, if_neg (by omega)]; decide) (ext_2_neg0 x y a c w h1  hb)
      · exact ext_bad (by rw [sizeV_2, if_neg (by omega)]; decide) (ext_2_great0 x y a c w h1  hb0 hb)
      rcases dim3 y with hb | ⟨hb0, hb⟩ | ⟨y0, y1⟩
      · exact ext_bad (by rw [sizeV_2, if_neg (by omega)]; decide) (ext_2_neg1 x y a c w h1 x0 x1 hb)
      · exact ext_bad (by rw [sizeV_2, if_neg (by omega)]; decide) (ext_2_great1 x y a c w h1 x0 x1 hb0 hb)
      by_cases hp : 300 < x * y
      · exact ext_bad (by rw [sizeV_2, if_pos (by omega), if_pos hp]; decide) (ext_2_much x y a c w h1 x0 x1 y0 y1 hp)
      exact ext_good (n := 2) (x := x) (y := y) (z := 0) (by rw [sizeV_2, if_pos (by omega), if_neg (by omega)]; exact Int.mul_nonneg x0 y0) ⟨rfl, rfl, rfl, rfl⟩ (ext_2_ok x y a c w h1 x0 x1 y0 y1 (by omega))
    · rcases dim3 x with hb | ⟨hb0, hb⟩ | ⟨x0, x1⟩
      · exact ext_bad (by rw [sizeV_3, if_neg (by omega)]; decide) (ext_3_neg0 x y z a c w h1  hb)
      · exact ext_bad (by rw [sizeV_3, if_neg (by omega)]; decide) (ext_3_great0 x y z a c w h1  hb0 hb)
      rcases dim3 y with hb | ⟨hb0, hb⟩ | ⟨y0, y1⟩
      · exact ext_bad (by rw [sizeV_3, if_neg (by omega)]; decide) (ext_3_neg1 x y z a c w h1 x0 x1 hb)
      · exact ext_bad (by rw [sizeV_3, if_neg (by omega)]; decide) (ext_3_great1 x y z a c w h1 x0 x1 hb0 hb)
      rcases dim3 z with hb | ⟨hb0, hb⟩ | ⟨z0, z1⟩
      · exact ext_bad (by rw [sizeV_3, if_neg (by omega)]; decide) (ext_3_neg2 x y z a c w h1 x0 x1 y0 y1 hb)
      · exact ext_bad (by rw [sizeV_3, if_neg (by omega)]; decide) (ext_3_great2 x y z a c w h1 x0 x1 y0 y1 hb0 hb)
      by_cases hp : 300 < x * y * z
      · exact ext_bad (by rw [sizeV_3, if_pos (by omega), if_pos hp]; decide) (ext_3_much x y z a c w h1 x0 x1 y0 y1 z0 z1 hp)
      exact ext_good (n := 3) (x := x) (y := y) (z := z) (by rw [sizeV_3, if_pos (by omega), if_neg (by omega)]; exact Int.mul_nonneg (Int.mul_nonneg x0 y0) z0) ⟨rfl, rfl, rfl, rfl⟩ (ext_3_ok x y z a c w h1 x0 x1 y0 y1 z0 z1 (by omega))
/-- Its size. -/
theorem size_ext {l : List Int} {n : Nat} {x y z : Int} (hs : 0 ≤ sizeV l) (he : Ext l n x y z) (w : World) :
    Calls Try.prog 104 #[.agg #[.int .i64 n, .int .i64 x, .int .i64 y, .int .i64 z]] w fun e w' => e = .returned (.int .i64 (sizeV l)) ∧ ∃ o, w' = w.alloc o := by
  obtain ⟨rfl, rfl, rfl, rfl⟩ := he
  obtain ⟨k1, k2, k3, k4⟩ := sizeV_ok hs
  rw [k4]
  rcases len3 k1 with rfl | ⟨x, rfl⟩ | ⟨x, y, rfl⟩ | ⟨x, y, z, rfl⟩
  · exact (size_0_ext w).mono fun e w' h => ⟨h.1, _, h.2⟩
  · simp only [List.all_cons, List.all_nil, Bool.and_true] at k2
    have dx := dimOk_bd k2
    rw [prod1]
    exact (size_1_ext x w dx.1 dx.2).mono fun e w' h => ⟨h.1, _, h.2⟩
  · simp only [List.all_cons, List.all_nil, Bool.and_true, Bool.and_eq_true] at k2
    have dx := dimOk_bd k2.1
    have dy := dimOk_bd k2.2
    rw [prod2]
    exact (size_2_ext x y w dx.1 dx.2 dy.1 dy.2).mono fun e w' h => ⟨h.1, _, h.2⟩
  · simp only [List.all_cons, List.all_nil, Bool.and_true, Bool.and_eq_true] at k2
    have dx := dimOk_bd k2.1
    have dy := dimOk_bd k2.2.1
    have dz := dimOk_bd k2.2.2
    rw [prod3]
    exact (size_3_ext x y z w dx.1 dx.2 dy.1 dy.2 dz.1 dz.2).mono fun e w' h => ⟨h.1, _, h.2⟩
theorem sizeV_neg {l : List Int} (h : ¬ 0 ≤ sizeV l) : sizeV l = -1 := by have := sizeV_bd l; omega
set_option maxRecDepth 20000 in
set_option maxHeartbeats 1000000 in
/-- SizeOf. -/
theorem size_impl {l : List Int} {a : Option Addr} {w : World} (c : Nat) (h1 : Ints w a l) :
    Calls Try.prog 76 #[.slice a l.length c] w fun e w' => e = .returned (.int .i64 (sizeV l)) ∧ Below w.heap.size w w' := by
  have H1 : Hid (Ints w a l) := h1
  clear h1
  by_cases hs : 0 ≤ sizeV l
  · have hs' : decide (0 ≤ sizeV l) = true := by simpa using hs
    have HS : Hid (0 ≤ sizeV l) := hs
    clear hs
    go_enter Try.func76, Try.ntmps76
    go_wp2_with fail
    refine (ext_impl _ H1.out).mono ?_
    rintro e w1 ⟨n, x, y, z, rfl, he, hb⟩
    have HE : Hid (Ext l n x y z) := he HS.out
    have HB : Hid (Below w.heap.size w w1) := hb
    clear he hb
    go_wp2_with fail
    refine (size_ext HS.out HE.out _).mono ?_
    rintro e w2 ⟨rfl, o, hw⟩
    subst w2
    go_wp2
    go_ret
    exact ⟨rfl, bAlloc (bAlloc HB.out _) _⟩
  · have hs' : decide (0 ≤ sizeV l) = false := by simpa using hs
    have HV : Hid (sizeV l = -1) := sizeV_neg hs
    clear hs
    go_enter Try.func76, Try.ntmps76
    go_wp2_with fail
    refine (ext_impl _ H1.out).mono ?_
    rintro e w1 ⟨n, x, y, z, rfl, he, hb⟩
    have HB : Hid (Below w.heap.size w w1) := hb
    clear he hb
    go_wp2
    go_ret
    exact ⟨ret_num HV.out.symm, bAlloc HB.out _⟩
set_option maxRecDepth 20000 in
set_option maxHeartbeats 1000000 in
/-- ShapeOk. -/
theorem ok_impl {l : List Int} {a : Option Addr} {w : World} (c : Nat) (h1 : Ints w a l) :
    Calls Try.prog 33 #[.slice a l.length c] w fun e w' => e = .returned (.bool (decide (0 ≤ sizeV l))) ∧ Below w.heap.size w w' := by
  have H1 : Hid (Ints w a l) := h1
  clear h1
  generalize hq : decide (0 ≤ sizeV l) = q
  have HQ : Hid (decide (0 ≤ sizeV l) = q) := hq
  clear hq
  go_enter Try.func33, Try.ntmps33
  go_wp2_with fail
  refine (ext_impl _ H1.out).mono ?_
  rintro e w1 ⟨n, x, y, z, rfl, he, hb⟩
  have HB : Hid (Below w.heap.size w w1) := hb
  clear he hb
  rw [HQ.out]
  go_wp2
  go_ret
  exact ⟨rfl, bAlloc HB.out _⟩
/-- No index where there is no place. -/
theorem idx_out {l : List Int} {n : Nat} {x y z : Int} (hs : 0 ≤ sizeV l) (he : Ext l n x y z) (p : Int) (hp : p < 0 ∨ sizeV l ≤ p) (w : World) :
    Calls Try.prog 124 #[.agg #[.int .i64 n, .int .i64 x, .int .i64 y, .int .i64 z], .int .i64 p] w fun e w' => e = .returned (.tuple #[.agg #[.int .i64 0, .int .i64 0, .int .i64 0], .bool false]) ∧ Below w.heap.size w w' := by
  obtain ⟨rfl, rfl, rfl, rfl⟩ := he
  obtain ⟨k1, k2, k3, k4⟩ := sizeV_ok hs
  rw [k4] at hp
  by_cases h0 : p < 0
  · rcases len3 k1 with rfl | ⟨x, rfl⟩ | ⟨x, y, rfl⟩ | ⟨x, y, z, rfl⟩
    · exact (idx_0_neg p w h0).mono fun e w' ⟨h, o0, o1, o2, hw⟩ => ⟨h, hw ▸ bAlloc (bAlloc (bAlloc (Below.refl _ _) _) _) _⟩
    · exact (idx_1_neg x p w h0).mono fun e w' ⟨h, o0, o1, o2, hw⟩ => ⟨h, hw ▸ bAlloc (bAlloc (bAlloc (Below.refl _ _) _) _) _⟩
    · exact (idx_2_neg x y p w h0).mono fun e w' ⟨h, o0, o1, o2, hw⟩ => ⟨h, hw ▸ bAlloc (bAlloc (bAlloc (Below.refl _ _) _) _) _⟩
    · exact (idx_3_neg x y z p w h0).mono fun e w' ⟨h, o0, o1, o2, hw⟩ => ⟨h, hw ▸ bAlloc (bAlloc (bAlloc (Below.refl _ _) _) _) _⟩
  · have q1 : 0 ≤ p := by omega
    have q2 : prodV l ≤ p := by omega
    rcases len3 k1 with rfl | ⟨x, rfl⟩ | ⟨x, y, rfl⟩ | ⟨x, y, z, rfl⟩
    · exact (idx_0_much p w q1 q2).mono fun e w' ⟨h, o0, o1, o2, o3, hw⟩ => ⟨h, hw ▸ bAlloc (bAlloc (bAlloc (bAlloc (Below.refl _ _) _) _) _) _⟩
    · simp only [List.all_cons, List.all_nil, Bool.and_true] at k2
      have dx := dimOk_bd k2
      rw [prod1] at q2
      exact (idx_1_much x p w dx.1 dx.2 q1 q2).mono fun e w' ⟨h, o0, o1, o2, o3, hw⟩ => ⟨h, hw ▸ bAlloc (bAlloc (bAlloc (bAlloc (Below.refl _ _) _) _) _) _⟩
    · simp only [List.all_cons, List.all_nil, Bool.and_true, Bool.and_eq_true] at k2
      have dx := dimOk_bd k2.1
      have dy := dimOk_bd k2.2
      rw [prod2] at q2
      exact (idx_2_much x y p w dx.1 dx.2 dy.1 dy.2 q1 q2).mono fun e w' ⟨h, o0, o1, o2, o3, hw⟩ => ⟨h, hw ▸ bAlloc (bAlloc (bAlloc (bAlloc (Below.refl _ _) _) _) _) _⟩
    · simp only [List.all_cons, List.all_nil, Bool.and_true, Bool.and_eq_true] at k2
      have dx := dimOk_bd k2.1
      have dy := dimOk_bd k2.2.1
      have dz := dimOk_bd k2.2.2
      rw [prod3] at q2
      exact (idx_3_much x y z p w dx.1 dx.2 dy.1 dy.2 dz.1 dz.2 q1 q2).mono fun e w' ⟨h, o0, o1, o2, o3, hw⟩ => ⟨h, hw ▸ bAlloc (bAlloc (bAlloc (bAlloc (Below.refl _ _) _) _) _) _⟩
theorem newInts_nil (B : Nat) (w : World) : NewInts B w (.slice none 0 0) [] := ⟨rfl, .inl ⟨rfl, rfl⟩⟩
set_option maxRecDepth 20000 in
set_option maxHeartbeats 1000000 in
theorem index_bad_impl {s : List Int} {a : Option Addr} {w : World} (p : Int) (c : Nat) (h1 : Ints w a s) (hb : sizeV s < 0 ∨ p < 0 ∨ sizeV s - 1 < p) :
    Calls Try.prog 97 #[.slice a s.length c, .int .i64 p] w fun e w' => ∃ v, e = .returned v ∧ NewInts w.heap.size w' v [] ∧ Below w.heap.size w w' := by
  have H1 : Hid (Ints w a s) := h1
  clear h1
  by_cases hs : 0 ≤ sizeV s
  · have hs' : decide (0 ≤ sizeV s) = true := by simpa using hs
    have HS : Hid (0 ≤ sizeV s) := hs
    have HP : Hid (p < 0 ∨ sizeV s ≤ p) := by show _ ∨ _; omega
    clear hs hb
    go_enter Try.func97, Try.ntmps97
    go_wp2_with fail
    refine (ext_impl _ H1.out).mono ?_
    rintro e w1 ⟨n, x, y, z, rfl, he, hb⟩
    have HE : Hid (Ext s n x y z) := he HS.out
    have HB : Hid (Below w.heap.size w w1) := hb
    clear he hb
    go_wp2_with fail
    refine (idx_out HS.out HE.out p HP.out _).mono ?_
    rintro e w2 ⟨rfl, hb⟩
    have HB2 : Hid (Below w.heap.size w w2) := bTrans (bAlloc HB.out _) hb
    clear hb
    go_wp2
    go_ret
    exact ⟨_, rfl, newInts_nil _ _, bAlloc HB2.out _⟩
  · have hs' : decide (0 ≤ sizeV s) = false := by simpa using hs
    clear hs hb
    go_enter Try.func97, Try.ntmps97
    go_wp2_with fail
    refine (ext_impl _ H1.out).mono ?_
    rintro e w1 ⟨n, x, y, z, rfl, he, hb⟩
    have HB : Hid (Below w.heap.size w w1) := hb
    clear he hb
    go_wp2
    go_ret
    exact ⟨_, rfl, newInts_nil _ _, bAlloc HB.out _⟩
/-- IndexOf, whatever list and place it is given: a list in new memory. -/
theorem index_impl {s : List Int} {a : Option Addr} {w : World} (p : Int) (c : Nat) (h1 : Ints w a s) :
    Calls Try.prog 97 #[.slice a s.length c, .int .i64 p] w fun e w' => ∃ v, e = .returned v ∧ NewInts w.heap.size w' v (indexV s p) ∧ Below w.heap.size w w' := by
  by_cases hb : sizeV s < 0 ∨ p < 0 ∨ sizeV s - 1 < p
  · have e : indexV s p = [] := by unfold indexV; rw [if_pos hb]
    rw [e]
    exact index_bad_impl p c h1 hb
  · have e : indexV s p = idx s p := by unfold indexV; rw [if_neg hb]
    rw [e]
    have hs : 0 ≤ sizeV s := by omega
    obtain ⟨k1, k2, k3, k4⟩ := sizeV_ok hs
    rcases len3 k1 with rfl | ⟨x, rfl⟩ | ⟨x, y, rfl⟩ | ⟨x, y, z, rfl⟩
    · have k5 := sizeV_0
      exact index_0_impl p a c w h1 (by omega) (by omega)
    · simp only [List.all_cons, List.all_nil, Bool.and_true] at k2
      have dx := dimOk_bd k2
      rw [prod1] at k3 k4
      exact index_1_impl x _ p a c w h1 (by omega) dx.2 (by omega) (by omega) rfl
    · simp only [List.all_cons, List.all_nil, Bool.and_true, Bool.and_eq_true] at k2
      have dx := dimOk_bd k2.1
      have dy := dimOk_bd k2.2
      rw [prod2] at k3 k4
      have q := pos_of_mul dx.1 dy.1 (by omega)
      exact index_2_impl x y _ _ p a c w h1 q.1 dx.2 q.2 dy.2 k3 (by omega) (by omega) rfl rfl
    · simp only [List.all_cons, List.all_nil, Bool.and_true, Bool.and_eq_true] at k2
      have dx := dimOk_bd k2.1
      have dy := dimOk_bd k2.2.1
      have dz := dimOk_bd k2.2.2
      rw [prod3] at k3 k4
      have q := pos_of_mul (Int.mul_nonneg dx.1 dy.1) dz.1 (by omega)
      have q' := pos_of_mul dx.1 dy.1 q.1
      exact index_3_impl x y z _ _ _ p a c w h1 q'.1 dx.2 q'.2 dy.2 q.2 dz.2 k3 (by omega) (by omega) rfl rfl rfl
set_option maxRecDepth 20000 in
set_option maxHeartbeats 1000000 in
theorem place_bad_impl {s i : List Int} {a b : Option Addr} {w : World} (c d : Nat) (h1 : Ints w a s) (hb : sizeV s < 0 ∨ i.length ≠ s.length) :
    Calls Try.prog 98 #[.slice a s.length c, .slice b i.length d] w fun e w' => e = .returned (.int .i64 (-1)) ∧ Below w.heap.size w w' := by
  have H1 : Hid (Ints w a s) := h1
  clear h1
  by_cases hs : 0 ≤ sizeV s
  · have hs' : decide (0 ≤ sizeV s) = true := by simpa using hs
    have HS : Hid (0 ≤ sizeV s) := hs
    have HN : Hid (i.length ≠ s.length) := by
      rcases hb with hb | hb
      · omega
      · exact hb
    clear hs hb
    go_enter Try.func98, Try.ntmps98
    go_wp2_with fail
    refine (ext_impl _ H1.out).mono ?_
    rintro e w1 ⟨n, x, y, z, rfl, he, hb⟩
    have hn : ((i.length : Int) != (n : Int)) = true := by
      have h1 := (he HS.out).1
      have h2 := HN.out
      simp; omega
    have HB : Hid (Below w.heap.size w w1) := hb
    clear he hb
    go_wp2
    go_ret
    exact ⟨rfl, bAlloc HB.out _⟩
  · have hs' : decide (0 ≤ sizeV s) = false := by simpa using hs
    clear hs hb
    go_enter Try.func98, Try.ntmps98
    go_wp2_with fail
    refine (ext_impl _ H1.out).mono ?_
    rintro e w1 ⟨n, x, y, z, rfl, he, hb⟩
    have HB : Hid (Below w.heap.size w w1) := hb
    clear he hb
    go_wp2
    go_ret
    exact ⟨rfl, bAlloc HB.out _⟩
end Go.Proofs.Ytcpgdhffemecbab
namespace Go.Proofs.Ytcpgdhffemecbab
open Go.RowKit
set_option linter.unusedVariables false
set_option linter.unusedSimpArgs false
theorem ints_tail {w : World} {b off : Nat} {l : List Int} (m : Nat) (h : Ints w (some ⟨b, off, none⟩) l) : Ints w (some ⟨b, off + m, none⟩) (l.drop m) := by
  rcases h with rfl | ⟨b', off', e, hb, hc⟩
  · exact .inl (by simp)
  · cases e
    refine .inr ⟨b, off + m, rfl, hb, fun k hk => ?_⟩
    have := hc (m + k) (by simp at hk; omega)
    rw [Nat.add_assoc, this]
    simp
/-- A list from one number on, and between two, whatever its memory. -/
theorem run_from {a : Option Addr} {n c M : Nat} (hM : M ≤ n) (hc : n ≤ c) (W : World) : (Instr.slice 24 (.slice a n c) (some (.int .i64 (M : Int))) none none).run Try.prog W = .ok (.slice (if c - M = 0 then a else a.map (·.add (M * 1))) (n - M) (c - M)) W := by
  have hs : (sizeOf 3).run Try.prog W = .ok 1 W := by kernel_rfl
  have he : Try.prog.elem 24 = 3 := by kernel_rfl
  rw [run_slice_l (P := Try.prog) (w := W) 24 a n c (by rw [he]; exact Try.underlying24) .i64 (M : Int) (by omega) (by omega), he, hs]
  have e : (c = M) = (c - M = 0) := by apply propext; omega
  simp [Result.andThen, sliced, e]
/-- What a copy makes of a list: m numbers of e from place k on. -/
def paste (l : List Int) (k : Nat) (e : List Int) (m : Nat) : List Int := l.take k ++ e.take m ++ l.drop (k + m)
theorem paste_zero (l : List Int) (k : Nat) (e : List Int) : paste l k e 0 = l := by simp [paste]
theorem paste_length {l e : List Int} {k m : Nat} (h : k + m ≤ l.length) (hm : m ≤ e.length) : (paste l k e m).length = l.length := by simp [paste]; omega
theorem paste_at {l e : List Int} {k m : Nat} (h : k + m ≤ l.length) (hm : m ≤ e.length) (i : Nat) : (paste l k e m).getD i 0 = if i < k then l.getD i 0 else if i < k + m then e.getD (i - k) 0 else l.getD i 0 := by
  have lk : (l.take k).length = k := by simp; omega
  have lm : (e.take m).length = m := by simp; omega
  unfold paste
  simp only [List.getD_eq_getElem?_getD, List.append_assoc]
  by_cases h1 : i < k
  · rw [if_pos h1, List.getElem?_append_left (by omega), List.getElem?_take_of_lt h1]
  · rw [if_neg h1, List.getElem?_append_right (by omega), lk]
    by_cases h2 : i < k + m
    · rw [if_pos h2, List.getElem?_append_left (by omega), List.getElem?_take_of_lt (by omega)]
    · rw [if_neg h2, List.getElem?_append_right (by omega), lm, List.getElem?_drop]
      congr 2
      omega
theorem copy_paste {w : World} {g : Nat} {l e : List Int} {a : Option Addr} {k n : Nat} (h : OwnInts w g l) (hs : Ints w a e) (hfit : k + min e.length n ≤ l.length) (ty : TypeId) (dC c : Nat) :
    (Builtin.copy_ #[24, 24] ty #[.slice (some ⟨g, k, none⟩) n dC, .slice a e.length c]).run Try.prog w = .ok (.int .i64 ((min e.length n : Nat) : Int)) (w.setRow g (vals (paste l k e (min e.length n)))) := by
  by_cases h0 : min e.length n = 0
  · rw [h0, paste_zero, setRow_self w g (vals l) _ _ h]
    exact run_copy_none (P := Try.prog) _ 24 24 ty 3 _ _ _ _ _ _ Try.underlying24 int_size h0
  · rcases hs with rfl | ⟨b, off, rfl, hb, hc⟩
    · simp at h0
    · have hc' : ∀ j, j < (e.take (min e.length n)).length → w.cell? ⟨b, off + j, none⟩ = some (.int .i64 ((e.take (min e.length n)).getD j 0)) := by
        intro j hj
        have hj' : j < min e.length n := by simp at hj; omega
        rw [hc j (by omega)]
        simp only [List.getD_eq_getElem?_getD, List.getElem?_take_of_lt hj']
      have q := run_copy_row Try.prog w 24 24 ty 3 g k n dC ⟨b, off, none⟩ e.length c (vals l) 3 ((e.take (min e.length n)).map (Value.int .i64)) Try.underlying24 int_size h (by simp) (ints_src hc') (by simp [vals]; omega) (by intro v hv; obtain ⟨x, _, rfl⟩ := List.mem_map.1 hv; rfl)
      rw [q, List.length_map, List.length_take, Nat.min_eq_left (Nat.min_le_left _ _)]
      simp [paste, vals, goInt]
theorem OwnInts.setRow {w : World} {g : Nat} {l : List Int} (h : OwnInts w g l) (l' : List Int) : OwnInts (w.setRow g (vals l')) g l' := setRow_heap w g _ _ _ _ h
end Go.Proofs.Ytcpgdhffemecbab
namespace Go.Proofs.Ytcpgdhffemecbab
open Go.RowKit
set_option linter.unusedVariables false
set_option linter.unusedSimpArgs false
set_option maxRecDepth 20000 in
set_option maxHeartbeats 1000000 in
/-- allRight. -/
theorem allRight_impl {d : List Int} {b : Option Addr} {w : World} (e : Nat) (h : Ints w b d) (hd : d.length ≤ 1048576) :
    Calls Try.prog 103 #[.slice b d.length e] w fun e w' => e = .returned (.bool (d.all ok)) ∧ w' = w := by
  have HJ : Hid (Ints w b d) := h
  clear h
  go_enter Try.func103, Try.ntmps103
  go_wp2
  go_loopw [7] (fun i w' => ∃ k : Nat, k ≤ d.length ∧ i = .int .i64 k ∧ (d.take k).all ok = true ∧ w' = w) (fun i _ => d.length - (intOf i).toNat)
  case atStart => exact ⟨0, by omega, rfl, by simp, rfl⟩
  case round =>
    obtain ⟨k, hk, rfl, ht, rfl⟩ := hrel
    have HT : Hid ((d.take k).all ok = true) := ht
    clear ht
    by_cases hlt : (k : Int) < (d.length : Int)
    · have L : k < d.length := by omega
      obtain ⟨b1, o1, rfl, _, c1⟩ := HJ.out.at L
      have Q : Hid ((d.take (k + 1)).all ok = ((d.take k).all ok && ok (d.getD k 0))) := by show _ = _; rw [take_snoc L, all_snocN]
      have QB : Hid (ok (d.getD k 0) = false → d.all ok = false) := fun h => by
        rw [List.all_eq_false]
        exact ⟨d.getD k 0, by simp [L], by rw [h]; decide⟩
      clear L
      generalize d.getD k 0 = x at c1 Q QB
      by_cases hx : ok x = true
      · have HT' : Hid ((d.take (k + 1)).all ok = true) := by show _ = _; rw [Q.out, HT.out, hx]; rfl
        clear Q QB
        go_wp2_with fail
        refine (numOk_impl x _).mono ?_
        rintro r w' ⟨rfl, hw⟩
        subst w'
        go_wp2
        go_roundw
        case rel => exact ⟨k + 1, by omega, by go_num, HT'.out, by first | trivial | rfl⟩
        case measure => simp [intOf]; omega
      · have hx : ok x = false := by simpa using hx
        have HV' : Hid (d.all ok = false) := QB.out hx
        clear Q QB
        go_wp2_with fail
        refine (numOk_impl x _).mono ?_
        rintro r w' ⟨rfl, hw⟩
        subst w'
        go_wp2
        go_ret
        exact ⟨by rw [HV'.out]; rfl, rfl⟩
    · have HV' : Hid (d.all ok = true) := by
        have h := HT.out
        show _ = _
        rw [List.take_of_length_le (by omega)] at h
        exact h
      go_wp2
      go_ret
      exact ⟨by rw [HV'.out]; rfl, rfl⟩
end Go.Proofs.Ytcpgdhffemecbab
namespace Go.Proofs.Ytcpgdhffemecbab
open Go.RowKit
set_option linter.unusedVariables false
set_option linter.unusedSimpArgs false
set_option maxRecDepth 20000 in
/-- Out of a list into a new one of its length. -/
theorem copy_all {w : World} {a : Option Addr} {l : List Int} (h1 : Ints w a l) (ty : TypeId) (d : Nat) (Z : Array Value) (hZ : Z.size = l.length) :
    (Builtin.copy_ #[24, 24] ty #[.slice (some ⟨w.heap.size, 0, none⟩) l.length l.length, .slice a l.length d]).run Try.prog (w.alloc (.cells Z 3)) =
      .ok (.int .i64 l.length) (w.alloc (.cells (vals l) 3)) := by
  by_cases h0 : l.length = 0
  · obtain rfl : l = [] := List.eq_nil_of_length_eq_zero h0
    have e : Z = vals [] := by simp at hZ; simp [vals, hZ]
    rw [e]
    exact run_copy_none (P := Try.prog) _ 24 24 ty 3 _ _ _ _ _ _ Try.underlying24 int_size rfl
  · rcases h1 with rfl | ⟨b, off, rfl, hb, hc⟩
    · exact absurd rfl h0
    · have hg : (w.alloc (.cells Z 3)).heap[w.heap.size]? = some (.cells Z 3 (0, 0)) := heap_alloc_new _ _
      have hc' : ∀ k, k < l.length → (w.alloc (.cells Z 3)).cell? ⟨b, off + k, none⟩ = some (.int .i64 (l.getD k 0)) := by
        intro k hk
        rw [(bAlloc (Below.refl w.heap.size w) _).cell (p := ⟨b, off + k, none⟩) hb]
        exact hc k hk
      have q := run_copy_row Try.prog (w.alloc (.cells Z 3)) 24 24 ty 3 w.heap.size 0 l.length l.length ⟨b, off, none⟩ l.length d Z 3 (l.map (Value.int .i64)) Try.underlying24 int_size hg (by rw [List.length_map]; simp) (ints_src hc') (by simp; omega) (by intro v hv; obtain ⟨x, _, rfl⟩ := List.mem_map.1 hv; rfl)
      rw [q, setRow_last, List.length_map]
      congr 3
      simp [vals, hZ]
set_option maxHeartbeats 1000000 in
/-- copiedList: a copy in new memory. -/
theorem copied_impl {l : List Int} {a : Option Addr} {w : World} (c : Nat) (h1 : Ints w a l) (hl : l.length ≤ 1048576) :
    Calls Try.prog 77 #[.slice a l.length c] w fun e w' => e = .returned (.slice (some ⟨w.heap.size, 0, none⟩) l.length l.length) ∧ w' = w.alloc (.cells (vals l) 3) := by
  have hmk : ∀ w, (Instr.makeSlice 24 (.int .i64 (l.length : Int)) (.int .i64 (l.length : Int))).run Try.prog w = .ok (.slice (some ⟨w.heap.size, 0, none⟩) l.length l.length) (w.alloc (.cells (vals (List.replicate l.length 0)) 3)) := fun w => make_ints l.length (by omega) w
  have hcp : (Builtin.copy_ #[24, 24] 3 #[.slice (some ⟨w.heap.size, 0, none⟩) l.length l.length, .slice a l.length c]).run Try.prog (w.alloc (.cells (vals (List.replicate l.length 0)) 3)) = .ok (.int .i64 l.length) (w.alloc (.cells (vals l) 3)) := copy_all h1 _ c _ (by simp [vals])
  clear h1
  go_enter Try.func77, Try.ntmps77
  go_wp2
  go_ret
  exact ⟨rfl, rfl⟩
/-- copiedList, as a contract on values. -/
theorem copied_new {l : List Int} {w : World} {v : Value} (h : IntsI w v l) (hl : l.length ≤ 1048576) :
    Calls Try.prog 77 #[v] w fun e w' => ∃ a' c', e = .returned (.slice a' l.length c') ∧ Piece w.heap.size w'.heap.size w' (.slice a' l.length c') l ∧ Below w.heap.size w w' := by
  obtain ⟨a, c, rfl, _, i⟩ := h
  refine (copied_impl c i hl).mono ?_
  rintro e w' ⟨rfl, rfl⟩
  exact ⟨_, _, rfl, OwnInts.piece (ownInts_new w l) (Nat.le_refl _) (by simp) _, bAlloc (Below.refl _ _) _⟩
set_option maxRecDepth 20000 in
set_option maxHeartbeats 4000000 in
/-- copyOf. -/
theorem copyOf_impl {s d : List Int} {w : World} {v : Value} (h : ArrI w v s d) (hs : s.length ≤ 1048576) (hd : d.length ≤ 1048576) :
    Calls Try.prog 72 #[v] w fun e w' => ∃ v', e = .returned v' ∧ Arr w.heap.size w'.heap.size w' v' s d ∧ Below w.heap.size w w' := by
  obtain ⟨a, c, b, e, rfl, h1, h2, g1, g2⟩ := h
  have H1 : Hid (IntsI w (.slice a s.length c) s) := ⟨a, c, rfl, g1, h1⟩
  have H2 : Hid (IntsI w (.slice b d.length e) d) := ⟨b, e, rfl, g2, h2⟩
  have HS : Hid (s.length ≤ 1048576) := hs
  have HD : Hid (d.length ≤ 1048576) := hd
  clear h1 h2 g1 g2 hs hd
  go_enter Try.func72, Try.ntmps72
  go_wp2
  generalize hW : (w.alloc (.cells #[.slice a s.length c, .slice b d.length e] 26)).alloc (.cells #[.slice none 0 0, .slice none 0 0] 26) = W
  have HBW : Hid (Below w.heap.size w W) := by rw [← hW]; exact bAlloc (bAlloc (Below.refl _ _) _) _
  have X : Hid (Box W w.heap.size (.slice a s.length c) (.slice b d.length e) 26) := by rw [← hW]; exact heap_alloc2_old w _ _
  have Y : Hid (Box W (w.heap.size + 1) (.slice none 0 0) (.slice none 0 0) 26) := by rw [← hW]; exact heap_alloc2_new w _ _
  have LW : Hid (w.heap.size + 1 < W.heap.size) := Y.out.lt
  clear hW
  have x0 := X.out.c0
  have x1 := X.out.c1
  go_region_held3 (fun w' => w'.cell? ⟨w.heap.size, 0, none⟩ = some (.slice a s.length c) ∧ w'.cell? ⟨w.heap.size, 1, none⟩ = some (.slice b d.length e))
    (first | exact ⟨z0 _ _, z1 _ _⟩ | exact ⟨y0, y1⟩ | exact ⟨v0, v1⟩ | exact ⟨x0, x1⟩)
    (first
      | (go_at_call_of 77 (Value.slice a s.length c); refine (copied_new (H1.out.keep (bTrans HBW.out ((Below.refl W.heap.size W).drew))) HS.out).mono ?_; rintro r w1 ⟨ax, cx, rfl, ha, hb⟩; have PX : Hid (Piece W.heap.size w1.heap.size w1 (.slice ax s.length cx) s) := ha; have HB1 : Hid (Below W.heap.size W w1) := bTrans ((Below.refl W.heap.size W).drew) hb; have v0 := (X.out.keep HB1.out).c0; have v1 := (X.out.keep HB1.out).c1; clear ha hb)
      | (go_at_call_of 77 (Value.slice b d.length e); refine (copied_new (H2.out.keep (bTrans HBW.out HB1.out)) HD.out).mono ?_; rintro r w2 ⟨ay, cy, rfl, ha, hb⟩; have PY : Hid (Piece w1.heap.size w2.heap.size w2 (.slice ay d.length cy) d) := ha; have PX2 : Hid (Piece W.heap.size w1.heap.size w2 (.slice ax s.length cx) s) := PX.out.keep hb; have S12 : Hid (w1.heap.size ≤ w2.heap.size) := hb.size; have HB2 : Hid (Below W.heap.size W w2) := bTrans HB1.out hb; have y0 := (X.out.keep HB2.out).c0; have y1 := (X.out.keep HB2.out).c1; have q0 := (Y.out.keep HB2.out).c0; have q1 := (Y.out.keep HB2.out).c1; have f0 : w2.frozen? ⟨w.heap.size + 1, 0, none⟩ = false := free_at (Y.out.keep HB2.out) 0; have f1 : w2.frozen? ⟨w.heap.size + 1, 1, none⟩ = false := free_at (Y.out.keep HB2.out) 1; have z : ∀ u v, Box ((w2.setCell ⟨w.heap.size + 1, 0, none⟩ u).setCell ⟨w.heap.size + 1, 1, none⟩ v) w.heap.size (.slice a s.length c) (.slice b d.length e) 26 := (fun u v => ((X.out.keep HB2.out).win (win_setCell _ _ _ _) (.inl (Nat.lt_succ_self _))).win (win_setCell _ _ _ _) (.inl (Nat.lt_succ_self _))); have z0 := (fun u v => (z u v).c0); have z1 := (fun u v => (z u v).c1); have HR : Hid (((w2.setCell ⟨w.heap.size + 1, 0, none⟩ (.slice ax s.length cx)).setCell ⟨w.heap.size + 1, 1, none⟩ (.slice ay d.length cy)).heap[w.heap.size + 1]? = some (.cells #[.slice ax s.length cx, .slice ay d.length cy] 26 (0, 0))) := arr_stored (Y.out.keep HB2.out); clear ha hb z))
  go_wp2
  refine bodyPost_ret (v := .agg #[.slice ax s.length cx, .slice ay d.length cy]) (results_arr rfl _ _ (w.heap.size + 1) _ _ rfl HR.out) rfl ?_
  refine ⟨_, rfl, ?_, below_setCell (below_setCell (bTrans HBW.out HB2.out) (by omega) _ _) (by omega) _ _⟩
  have S1 := HB1.out.size
  have S2 := S12.out
  have S3 := LW.out
  have A : Arr W.heap.size w2.heap.size w2 (.agg #[.slice ax s.length cx, .slice ay d.length cy]) s d := ⟨_, _, rfl, PX2.out.mono (Nat.le_refl _) S12.out, PY.out.mono S1 (Nat.le_refl _), PX2.out.apart PY.out (.inl (Nat.le_refl _))⟩
  exact ((A.setCell S3 _ _).setCell S3 _ _).mono (by omega) (by simp [size_setCell])
end Go.Proofs.Ytcpgdhffemecbab
namespace Go.Proofs.Ytcpgdhffemecbab
open Go.RowKit
set_option linter.unusedVariables false
set_option linter.unusedSimpArgs false
set_option maxRecDepth 20000 in
set_option maxHeartbeats 4000000 in
/-- ArrayOk. -/
theorem arrOk_impl {s d : List Int} {w : World} {v : Value} (h : ArrI w v s d) (hd : d.length ≤ 1048576) :
    Calls Try.prog 71 #[v] w fun e w' => e = .returned (.bool (arrOk s d)) ∧ Below w.heap.size w w' := by
  obtain ⟨a, c, b, e, rfl, h1, h2, _, _⟩ := h
  have H1 : Hid (Ints w a s) := h1
  have H2 : Hid (Ints w b d) := h2
  have HD : Hid (d.length ≤ 1048576) := hd
  clear h1 h2 hd
  have HSZ : Hid (∀ W, Ints W a s → Calls Try.prog 76 #[.slice a s.length c] W fun e w' => e = .returned (.int .i64 (sizeV s)) ∧ Below W.heap.size W w') := fun W h => size_impl c h
  have HAR : Hid (∀ W, Ints W b d → Calls Try.prog 103 #[.slice b d.length e] W fun e w' => e = .returned (.bool (d.all ok)) ∧ w' = W) := fun W h => allRight_impl e h HD.out
  by_cases hs : sizeV s = d.length
  · have HV : Hid (arrOk s d = d.all ok) := by show _ = _; simp [arrOk, hs]
    rw [hs] at HSZ
    clear hs
    generalize d.all ok = q at *
    go_enter Try.func71, Try.ntmps71
    go_wp2
    generalize hW : w.alloc (.cells #[.slice a s.length c, .slice b d.length e] 26) = W
    have HB : Hid (Below w.heap.size w W) := by rw [← hW]; exact bAlloc (Below.refl _ _) _
    have X : Hid (Box W w.heap.size (.slice a s.length c) (.slice b d.length e) 26) := by rw [← hW]; exact box_new w _ _ _
    have x0 := X.out.c0
    have x1 := X.out.c1
    clear hW
    go_region_held3 (fun w' => w'.cell? ⟨w.heap.size, 0, none⟩ = some (.slice a s.length c) ∧ w'.cell? ⟨w.heap.size, 1, none⟩ = some (.slice b d.length e))
      (first | exact ⟨z0, z1⟩ | exact ⟨y0, y1⟩ | exact ⟨x0, x1⟩)
      (first
        | (go_at_call 76; refine (HSZ.out _ (H1.out.keep (bTrans HB.out ((Below.refl W.heap.size W).drew)))).mono ?_; rintro r w1 ⟨rfl, hb⟩; have HB1 : Hid (Below W.heap.size W w1) := bTrans ((Below.refl W.heap.size W).drew) hb; have y0 := (X.out.keep HB1.out).c0; have y1 := (X.out.keep HB1.out).c1; clear hb)
        | (go_at_call 103; refine (HAR.out _ (H2.out.keep (bTrans HB.out HB1.out))).mono ?_; rintro r w2 ⟨rfl, hw⟩; subst w2))
    go_wp2
    go_ret
    exact ⟨by rw [HV.out]; rfl, bTrans HB.out HB1.out⟩
  · have HV : Hid (arrOk s d = false) := by show _ = _; simp [arrOk, hs]
    have hne : ((d.length : Int) == sizeV s) = false := by simp; exact fun e => hs e.symm
    generalize sizeV s = z at *
    clear hs
    go_enter Try.func71, Try.ntmps71
    go_wp2
    generalize hW : w.alloc (.cells #[.slice a s.length c, .slice b d.length e] 26) = W
    have HB : Hid (Below w.heap.size w W) := by rw [← hW]; exact bAlloc (Below.refl _ _) _
    have X : Hid (Box W w.heap.size (.slice a s.length c) (.slice b d.length e) 26) := by rw [← hW]; exact box_new w _ _ _
    have x0 := X.out.c0
    have x1 := X.out.c1
    clear hW
    first
      | go_region_with (go_at_call 76; refine (HSZ.out _ (H1.out.keep (bTrans HB.out ((Below.refl W.heap.size W).drew)))).mono ?_; rintro r w1 ⟨rfl, hb⟩; have HB1 : Hid (Below W.heap.size W w1) := bTrans ((Below.refl W.heap.size W).drew) hb; have y0 := (X.out.keep HB1.out).c0; have y1 := (X.out.keep HB1.out).c1; clear hb)
      | fail "no"
    all_goals
      go_wp2
      go_ret
      exact ⟨by rw [HV.out]; rfl, bTrans HB.out HB1.out⟩
set_option maxRecDepth 20000 in
set_option maxHeartbeats 2000000 in
/-- copyIfOk. -/
theorem copyIfOk_impl {s d : List Int} {w : World} {v : Value} (h : ArrI w v s d) (hs : s.length ≤ 1048576) (hd : d.length ≤ 1048576) :
    Calls Try.prog 29 #[v] w fun e w' => ∃ v', e = .returned (.tuple #[v', .bool (arrOk s d)]) ∧ Arr w.heap.size w'.heap.size w' v' (if arrOk s d = true then s else []) (if arrOk s d = true then d else []) ∧ Below w.heap.size w w' := by
  have H : Hid (ArrI w v s d) := h
  obtain ⟨a, c, b, e, rfl, _, _, _, _⟩ := h
  have HS : Hid (s.length ≤ 1048576) := hs
  have HD : Hid (d.length ≤ 1048576) := hd
  clear hs hd
  cases ho : arrOk s d
  all_goals
    have HO : Hid (arrOk s d = _) := ho
    clear ho
    go_enter Try.func29, Try.ntmps29
    go_wp2_with fail
    refine (arrOk_impl (H.out.keep (bAlloc (bAlloc (Below.refl _ _) _) _)) HD.out).mono ?_
    rintro r w1 ⟨rfl, hb⟩
    have HB : Hid (Below w.heap.size w w1) := bTrans (bAlloc (bAlloc (Below.refl _ _) _) _) hb
    have X : Hid (Box w1 w.heap.size (.slice a s.length c) (.slice b d.length e) 26) := ((box_new w _ _ _).keep (bAlloc (Below.refl _ _) _)).keep hb
    have Y : Hid (Box w1 (w.heap.size + 1) (.slice none 0 0) (.slice none 0 0) 26) := (box_new2 w _ _ _ _).keep hb
    have x0 := X.out.c0
    have x1 := X.out.c1
    have y0 := Y.out.c0
    have y1 := Y.out.c1
    have f0 : w1.frozen? ⟨w.heap.size + 1, 0, none⟩ = false := free_at Y.out 0
    have f1 : w1.frozen? ⟨w.heap.size + 1, 1, none⟩ = false := free_at Y.out 1
    clear hb
    rw [HO.out]
  · have HR : Hid (((w1.setCell ⟨w.heap.size + 1, 0, none⟩ (.slice none 0 0)).setCell ⟨w.heap.size + 1, 1, none⟩ (.slice none 0 0)).heap[w.heap.size + 1]? = some (.cells #[.slice none 0 0, .slice none 0 0] 26 (0, 0))) := arr_stored Y.out
    go_wp2
    refine bodyPost_ret (results_arr_tmp Try.results29 _ _ (w.heap.size + 1) _ _ rfl HR.out) rfl ?_
    exact ⟨_, rfl, arr_zero _ _ _, below_setCell (below_setCell HB.out (by omega) _ _) (by omega) _ _⟩
  · go_wp2_with fail
    refine (copyOf_impl (H.out.keep HB.out) HS.out HD.out).mono ?_
    rintro r w2 ⟨v', rfl, ha, hb⟩
    obtain ⟨a', c', b', e', rfl, _, _, _, _⟩ := ha.arrI
    have HA : Hid (Arr w1.heap.size w2.heap.size w2 (.agg #[.slice a' s.length c', .slice b' d.length e']) s d) := ha
    have HB2 : Hid (Below w.heap.size w w2) := bTrans HB.out hb
    have Y2 : Hid (Box w2 (w.heap.size + 1) (.slice none 0 0) (.slice none 0 0) 26) := Y.out.keep hb
    have LT : Hid (w.heap.size + 1 < w1.heap.size) := Y.out.lt
    clear ha hb x0 x1 y0 y1 f0 f1
    have y0 := Y2.out.c0
    have y1 := Y2.out.c1
    have f0 : w2.frozen? ⟨w.heap.size + 1, 0, none⟩ = false := free_at Y2.out 0
    have f1 : w2.frozen? ⟨w.heap.size + 1, 1, none⟩ = false := free_at Y2.out 1
    have HR : Hid (((w2.setCell ⟨w.heap.size + 1, 0, none⟩ (.slice a' s.length c')).setCell ⟨w.heap.size + 1, 1, none⟩ (.slice b' d.length e')).heap[w.heap.size + 1]? = some (.cells #[.slice a' s.length c', .slice b' d.length e'] 26 (0, 0))) := arr_stored Y2.out
    go_wp2
    refine bodyPost_ret (results_arr_tmp Try.results29 _ _ (w.heap.size + 1) _ _ rfl HR.out) rfl ?_
    refine ⟨_, rfl, ?_, below_setCell (below_setCell HB2.out (by omega) _ _) (by omega) _ _⟩
    have L := LT.out
    exact ((HA.out.setCell L _ _).setCell L _ _).mono (by omega) (by simp [size_setCell])
theorem arrOk_one (x : Int) : arrOk [] [x] = ok x := by simp [arrOk, sizeV_0']
set_option maxRecDepth 20000 in
set_option maxHeartbeats 2000000 in
/-- ScalarOf. -/
theorem scalarOf_impl (x : Int) (w : World) :
    Calls Try.prog 8 #[.int .i64 x] w fun e w' => ∃ v, e = .returned (.tuple #[v, .bool (ok x)]) ∧ Arr w.heap.size w'.heap.size w' v [] (if ok x = true then [x] else []) ∧ Below w.heap.size w w' := by
  obtain ⟨D, hD⟩ : ∃ D, D = (if ok x = true then [x] else []) := ⟨_, rfl⟩
  rw [← hD]
  have HC : Hid (∀ W u, ArrI W u [] [x] → Calls Try.prog 29 #[u] W fun e w' => ∃ v', e = .returned (.tuple #[v', .bool (ok x)]) ∧ Arr W.heap.size w'.heap.size w' v' [] D ∧ Below W.heap.size W w') := by
    intro W u hu
    have q := copyIfOk_impl hu (by simp) (by simp)
    rw [arrOk_one, ← hD] at q
    refine q.mono ?_
    rintro e w' ⟨v', rfl, ha, hb⟩
    exact ⟨v', rfl, by simpa using ha, hb⟩
  clear hD
  go_enter Try.func8, Try.ntmps8
  go_wp2_with fail
  refine (HC.out _ _ ⟨none, 0, _, 1, rfl, .inl rfl, (by simpa [vals] using ints_new (w.alloc (.cells #[.slice none 0 0, .slice none 0 0] 26)) [x] 3), by simp, by simp⟩).mono ?_
  rintro r w1 ⟨v', rfl, ha, hb⟩
  obtain ⟨a', c', b', e', rfl, _, _, _, _⟩ := ha.arrI
  have HA : Hid (Arr (w.heap.size + 2) w1.heap.size w1 (.agg #[.slice a' 0 c', .slice b' D.length e']) [] D) := by show Arr _ _ _ _ _ _; simpa using ha
  have HB : Hid (Below w.heap.size w w1) := bTrans (bAlloc (bAlloc (Below.refl _ _) _) _) hb
  have Y : Hid (Box w1 w.heap.size (.slice none 0 0) (.slice none 0 0) 26) := ((box_new w _ _ _).keep (bAlloc (Below.refl _ _) _)).keep hb
  clear ha hb
  have y0 := Y.out.c0
  have y1 := Y.out.c1
  have f0 : w1.frozen? ⟨w.heap.size, 0, none⟩ = false := free_at Y.out 0
  have f1 : w1.frozen? ⟨w.heap.size, 1, none⟩ = false := free_at Y.out 1
  have HR : Hid (((w1.setCell ⟨w.heap.size, 0, none⟩ (.slice a' 0 c')).setCell ⟨w.heap.size, 1, none⟩ (.slice b' D.length e')).heap[w.heap.size]? = some (.cells #[.slice a' 0 c', .slice b' D.length e'] 26 (0, 0))) := arr_stored Y.out
  simp only [List.length_nil]
  go_wp2
  refine bodyPost_ret (results_arr_tmp Try.results8 _ _ w.heap.size _ _ rfl HR.out) rfl ?_
  refine ⟨_, rfl, ?_, below_setCell (below_setCell HB.out (Nat.le_refl _) _ _) (Nat.le_refl _) _ _⟩
  exact ((HA.out.setCell (by omega) _ _).setCell (by omega) _ _).mono (by omega) (by simp [size_setCell])
end Go.Proofs.Ytcpgdhffemecbab
namespace Go.Proofs.Ytcpgdhffemecbab
open Go.RowKit
set_option linter.unusedVariables false
set_option linter.unusedSimpArgs false
/-- Are all arrays of a list right? -/
def allOkV (F : List (List Int)) (m : Nat) : Bool := (List.range m).all fun i => arrOk (F.getD (2 * i) []) (F.getD (2 * i + 1) [])
theorem allOkV_succ (F : List (List Int)) (m : Nat) : allOkV F (m + 1) = (allOkV F m && arrOk (F.getD (2 * m) []) (F.getD (2 * m + 1) [])) := by
  unfold allOkV; rw [List.range_succ, List.all_append]; simp
theorem allOkV_no {F : List (List Int)} {m k : Nat} (hk : k < m) (h : arrOk (F.getD (2 * k) []) (F.getD (2 * k + 1) []) = false) : allOkV F m = false := by
  unfold allOkV
  rw [List.all_eq_false]
  exact ⟨k, by simpa using hk, by rw [h]; decide⟩
set_option maxRecDepth 20000 in
set_option maxHeartbeats 1000000 in
/-- allOk. -/
theorem allOk_impl {F : List (List Int)} {w : World} {m ca : Nat} {aa : Option Addr} (hA : ArrsI w (.slice aa m ca) F) (hm : m ≤ 2) (hL : ∀ j, (F.getD j []).length ≤ 1048576) :
    Calls Try.prog 31 #[.slice aa m ca] w fun r w' => r = .returned (.bool (allOkV F m)) ∧ Below w.heap.size w w' := by
  have HA : Hid (ArrsI w (.slice aa m ca) F) := hA
  have HL : Hid (∀ j, (F.getD j []).length ≤ 1048576) := hL
  clear hA hL
  go_enter Try.func31, Try.ntmps31
  go_wp2
  go_loopw [7] (fun i w' => ∃ k : Nat, k ≤ m ∧ i = .int .i64 (k : Int) ∧ allOkV F k = true ∧ Below w.heap.size w w') (fun i _ => m - (intOf i).toNat)
  case atStart => exact ⟨0, by omega, rfl, rfl, Below.refl _ _⟩
  case round =>
    obtain ⟨j, hk, rfl, ht, hb⟩ := hrel
    have HT : Hid (allOkV F j = true) := ht
    have HB : Hid (Below w.heap.size w wr) := hb
    clear ht hb
    by_cases hlt : (j : Int) < (m : Int)
    · obtain ⟨o, off, sx, sy, rfl, ho, p0, p1, i0, i1⟩ := (HA.out.keep HB.out).at (k := j) (by omega)
      obtain ⟨ax, cx, rfl, gix, ix⟩ := i0
      obtain ⟨ay, cy, rfl, giy, iy⟩ := i1
      have A1 : Hid (ArrI wr (.agg #[.slice ax (F.getD (2 * j) []).length cx, .slice ay (F.getD (2 * j + 1) []).length cy]) (F.getD (2 * j) []) (F.getD (2 * j + 1) [])) := ⟨_, _, _, _, rfl, ix, iy, gix, giy⟩
      have HC : Hid (∀ W, Below wr.heap.size wr W → Calls Try.prog 71 #[.agg #[.slice ax (F.getD (2 * j) []).length cx, .slice ay (F.getD (2 * j + 1) []).length cy]] W fun e w' => e = .returned (.bool (arrOk (F.getD (2 * j) []) (F.getD (2 * j + 1) []))) ∧ Below W.heap.size W w') := fun W h => arrOk_impl (A1.out.keep h) (HL.out _)
      have HY : Hid (arrOk (F.getD (2 * j) []) (F.getD (2 * j + 1) []) = true → allOkV F (j + 1) = true) := fun h => by rw [allOkV_succ, HT.out, h]; rfl
      have HN : Hid (arrOk (F.getD (2 * j) []) (F.getD (2 * j + 1) []) = false → allOkV F m = false) := fun h => allOkV_no (by omega) h
      clear ix iy gix giy A1
      generalize (F.getD (2 * j) []).length = ls at *
      generalize (F.getD (2 * j + 1) []).length = ld at *
      generalize arrOk (F.getD (2 * j) []) (F.getD (2 * j + 1) []) = q at *
      cases q
      · have HN' : Hid (allOkV F m = false) := HN.out rfl
        clear HN HY
        go_wp2_with fail
        refine (HC.out _ (bAlloc (Below.refl _ _) _)).mono ?_
        rintro r w2 ⟨rfl, hb⟩
        have HB2 : Hid (Below w.heap.size w w2) := bTrans HB.out (bTrans (bAlloc (Below.refl _ _) _) hb)
        clear hb
        go_wp2
        go_ret
        exact ⟨by rw [HN'.out]; rfl, HB2.out⟩
      · have HY' : Hid (allOkV F (j + 1) = true) := HY.out rfl
        clear HN HY
        go_wp2_with fail
        refine (HC.out _ (bAlloc (Below.refl _ _) _)).mono ?_
        rintro r w2 ⟨rfl, hb⟩
        have HB2 : Hid (Below w.heap.size w w2) := bTrans HB.out (bTrans (bAlloc (Below.refl _ _) _) hb)
        clear hb
        go_wp2
        go_roundw
        case rel => exact ⟨j + 1, by omega, by go_num, HY'.out, HB2.out⟩
        case measure => simp [intOf]; omega
    · obtain rfl : j = m := by omega
      go_wp2
      go_ret
      exact ⟨by rw [HT.out]; rfl, HB.out⟩
set_option maxRecDepth 20000 in
set_option maxHeartbeats 1000000 in
/-- vectorCopy. -/
theorem vecCopy_impl {l : List Int} {w : World} {v : Value} (h : IntsI w v l) (hl : l.length ≤ 1048576) :
    Calls Try.prog 134 #[v] w fun r w' => ∃ v', r = .returned v' ∧ Arr w.heap.size w'.heap.size w' v' [(l.length : Int)] l ∧ Below w.heap.size w w' := by
  obtain ⟨a, c, rfl, g, i⟩ := h
  have HI : Hid (IntsI w (.slice a l.length c) l) := ⟨a, c, rfl, g, i⟩
  have HC : Hid (∀ W, Below w.heap.size w W → Calls Try.prog 77 #[.slice a l.length c] W fun e w' => ∃ a' c', e = .returned (.slice a' l.length c') ∧ Piece W.heap.size w'.heap.size w' (.slice a' l.length c') l ∧ Below W.heap.size W w') := fun W h => copied_new (HI.out.keep h) hl
  clear g i
  go_enter Try.func134, Try.ntmps134
  go_wp2_with fail
  refine (HC.out _ (bAlloc (bAlloc (Below.refl _ _) _) _)).mono ?_
  rintro r w1 ⟨a2, c2, rfl, hp, hb⟩
  have HP : Hid (Piece (w.heap.size + 2) w1.heap.size w1 (.slice a2 l.length c2) l) := by show Piece _ _ _ _ _; simpa using hp
  have HB : Hid (Below w.heap.size w w1) := bTrans (bAlloc (bAlloc (Below.refl _ _) _) _) hb
  have Y : Hid (Box w1 w.heap.size (.slice none 0 0) (.slice none 0 0) 26) := ((box_new w _ _ _).keep (bAlloc (Below.refl _ _) _)).keep hb
  have PS : Hid (Piece (w.heap.size + 1) (w.heap.size + 2) w1 (.slice (some ⟨w.heap.size + 1, 0, none⟩) 1 1) [(l.length : Int)]) := by
    have p := OwnInts.piece (ownInts_new (w.alloc (.cells #[.slice none 0 0, .slice none 0 0] 26)) [(l.length : Int)]) (B := w.heap.size + 1) (C := w.heap.size + 2) (by simp) (by simp) 1
    have p' : Piece (w.heap.size + 1) (w.heap.size + 2) ((w.alloc (.cells #[.slice none 0 0, .slice none 0 0] 26)).alloc (.cells #[.int .i64 (l.length : Int)] 3)) (.slice (some ⟨w.heap.size + 1, 0, none⟩) 1 1) [(l.length : Int)] := by simpa [vals] using p
    exact p'.keep hb
  have LT : Hid (w.heap.size + 2 ≤ w1.heap.size) := by have := hb.size; show _ ≤ _; simpa using this
  clear hp hb
  have y0 := Y.out.c0
  have y1 := Y.out.c1
  have f0 : w1.frozen? ⟨w.heap.size, 0, none⟩ = false := free_at Y.out 0
  have f1 : w1.frozen? ⟨w.heap.size, 1, none⟩ = false := free_at Y.out 1
  have HR : Hid (((w1.setCell ⟨w.heap.size, 0, none⟩ (.slice (some ⟨w.heap.size + 1, 0, none⟩) 1 1)).setCell ⟨w.heap.size, 1, none⟩ (.slice a2 l.length c2)).heap[w.heap.size]? = some (.cells #[.slice (some ⟨w.heap.size + 1, 0, none⟩) 1 1, .slice a2 l.length c2] 26 (0, 0))) := arr_stored Y.out
  go_wp2
  refine bodyPost_ret (v := .agg #[.slice (some ⟨w.heap.size + 1, 0, none⟩) 1 1, .slice a2 l.length c2]) (results_arr rfl _ _ w.heap.size _ _ rfl HR.out) rfl ?_
  refine ⟨_, rfl, ?_, below_setCell (below_setCell HB.out (Nat.le_refl _) _ _) (Nat.le_refl _) _ _⟩
  have L := LT.out
  have p1' := (PS.out.win (win_setCell w1 w.heap.size 0 (.slice (some ⟨w.heap.size + 1, 0, none⟩) 1 1)) (.inr (by omega))).win (win_setCell _ w.heap.size 1 (.slice a2 l.length c2)) (.inr (by omega))
  have p2' := (HP.out.win (win_setCell w1 w.heap.size 0 (.slice (some ⟨w.heap.size + 1, 0, none⟩) 1 1)) (.inr (by omega))).win (win_setCell _ w.heap.size 1 (.slice a2 l.length c2)) (.inr (by omega))
  exact ⟨_, _, rfl, p1'.mono (by omega) (by simp only [size_setCell]; omega), p2'.mono (by omega) (by simp only [size_setCell]; omega), p1'.apart p2' (.inl (by omega))⟩
/-- What soleNumber tells: a code, and the number beside it. -/
def soleC (s d : List Int) (q : Bool) : Int := if arrOk s d = true ∧ q = true then (if d.length ≠ 1 then 3 else 0) else 1
def soleV (s d : List Int) (q : Bool) : Int := if soleC s d q = 0 then d.getD 0 0 else 0
/-- The shape as withRows has it. -/
def rowsS (s : List Int) : List Int := if s = [] then [1] else s
set_option maxRecDepth 20000 in
set_option maxHeartbeats 2000000 in
/-- ofRows. -/
theorem ofRows_impl {s : List Int} {w : World} {v : Value} (x : Int) (h : IntsI w v s) (hs : s.length ≤ 1048576) (h0 : s ≠ []) :
    Calls Try.prog 136 #[v, .int .i64 x] w fun r w' => ∃ a' c', r = .returned (.slice a' (x :: s.drop 1).length c') ∧ Piece w.heap.size w'.heap.size w' (.slice a' (x :: s.drop 1).length c') (x :: s.drop 1) ∧ Below w.heap.size w w' := by
  obtain ⟨a, c, rfl, g, i⟩ := h
  have HC : Hid (Calls Try.prog 77 #[.slice a s.length c] w fun e w' => e = .returned (.slice (some ⟨w.heap.size, 0, none⟩) s.length s.length) ∧ w' = w.alloc (.cells (vals s) 3)) := copied_impl c i hs
  have hp : 0 < s.length := by cases s with | nil => exact absurd rfl h0 | cons _ _ => simp
  have hp' : (0 : Int) < (s.length : Int) := by omega
  have EL : Hid ((x :: s.drop 1).length = s.length) := by show _ = _; simp; omega
  have ES : Hid (s.set 0 x = x :: s.drop 1) := by cases s with | nil => exact absurd rfl h0 | cons _ _ => rfl
  have HL : Hid (s.length ≤ 1048576) := hs
  rw [EL.out]
  clear i g hs h0
  go_enter Try.func136, Try.ntmps136
  go_wp2_with fail
  refine HC.out.mono ?_
  rintro r w1 ⟨rfl, hw⟩
  have HB : Hid (Below w.heap.size w w1) := by rw [hw]; exact bAlloc (Below.refl _ _) _
  have HP : Hid (Piece w.heap.size (w.heap.size + 1) w1 (.slice (some ⟨w.heap.size, 0, none⟩) s.length s.length) s) := by
    rw [hw]; exact OwnInts.piece (ownInts_new w s) (Nat.le_refl _) (by simp) _
  have LT : Hid (w.heap.size + 1 ≤ w1.heap.size) := by rw [hw]; show _ ≤ _; simp
  clear hw HC
  obtain ⟨t1, t2, _, _, _⟩ := HP.out.cellAt (k := 0) hp
  rw [Nat.zero_add] at t1 t2
  generalize s.getD 0 0 = z at t1
  go_wp2
  go_ret
  refine ⟨_, _, rfl, ?_, below_setCell HB.out (Nat.le_refl _) _ _⟩
  have q := HP.out.set hp x
  rw [ES.out] at q
  exact q.mono (Nat.le_refl _) (by rw [size_setCell]; exact LT.out)
end Go.Proofs.Ytcpgdhffemecbab
namespace Go.Proofs.Ytcpgdhffemecbab
open Go.RowKit
set_option linter.unusedVariables false
set_option linter.unusedSimpArgs false
/-- The first k of n places are filled, again and again. -/
def againTo (e : List Int) (n k : Nat) : List Int := (List.range n).map fun i => if i < k then e.getD (i % e.length) 0 else 0
theorem againTo_zero (e : List Int) (n : Nat) : againTo e n 0 = List.replicate n 0 := by
  unfold againTo
  apply List.ext_getElem
  · simp
  · intro i h1 h2; simp
theorem againTo_all {e : List Int} (h : e ≠ []) (n : Nat) : againTo e n n = againD e n := by
  unfold againTo againD
  apply List.map_congr_left
  intro i hi
  rw [if_pos (by simpa using hi), if_neg h]
theorem againD_nil (n : Nat) : againD [] n = List.replicate n 0 := by
  unfold againD
  apply List.ext_getElem
  · simp
  · intro i h1 h2; simp
theorem againTo_length (e : List Int) (n k : Nat) : (againTo e n k).length = n := by simp [againTo]
theorem againTo_at (e : List Int) {n k i : Nat} (hi : i < n) : (againTo e n k).getD i 0 = if i < k then e.getD (i % e.length) 0 else 0 := by
  unfold againTo
  simp [hi]
theorem paste_again {e : List Int} {n k m : Nat} (hk : k % e.length = 0) (hm : m ≤ e.length) (hn : k + m ≤ n) : paste (againTo e n k) k e m = againTo e n (k + m) := by
  apply List.ext_getElem
  · rw [paste_length (by rw [againTo_length]; exact hn) hm, againTo_length, againTo_length]
  · intro i h1 h2
    have hi : i < n := by rwa [againTo_length] at h2
    have q := paste_at (l := againTo e n k) (e := e) (k := k) (m := m) (by rw [againTo_length]; exact hn) hm i
    rw [againTo_at e hi] at q
    have r := againTo_at e (k := k + m) hi
    simp only [List.getD_eq_getElem?_getD] at q r
    rw [List.getElem?_eq_getElem h1] at q
    rw [List.getElem?_eq_getElem h2] at r
    simp only [Option.getD_some] at q r
    rw [q, r]
    by_cases c1 : i < k
    · rw [if_pos c1, if_pos c1, if_pos (by omega)]
    · rw [if_neg c1, if_neg c1]
      by_cases c2 : i < k + m
      · rw [if_pos c2, if_pos c2]
        have : i % e.length = i - k := by
          have e1 : i = k + (i - k) := by omega
          conv => lhs; rw [e1]
          rw [Nat.add_mod, hk, Nat.zero_add, Nat.mod_mod, Nat.mod_eq_of_lt (by omega)]
        rw [this]
      · rw [if_neg c2, if_neg c2]
set_option maxRecDepth 20000 in
set_option maxHeartbeats 2000000 in
/-- againAndAgain. -/
theorem again_impl {e : List Int} {a : Option Addr} {w : World} {n c : Nat} (h : Ints w a e) (he : e.length ≤ 1048576) (hn : n ≤ 1048576) :
    Calls Try.prog 140 #[.slice a e.length c, .int .i64 (n : Int)] w fun r w' => r = .returned (.slice (some ⟨w.heap.size, 0, none⟩) n n) ∧ OwnInts w' w.heap.size (againD e n) ∧ Below w.heap.size w w' := by
  have hmk : ∀ w, (Instr.makeSlice 24 (.int .i64 (n : Int)) (.int .i64 (n : Int))).run Try.prog w = .ok (.slice (some ⟨w.heap.size, 0, none⟩) n n) (w.alloc (.cells (vals (List.replicate n 0)) 3)) := fun w => make_ints n (by omega) w
  obtain ⟨D, hD⟩ : ∃ D, D = againD e n := ⟨_, rfl⟩
  rw [← hD]
  by_cases h0 : e = []
  · have ED : Hid (D = List.replicate n 0) := by show _ = _; rw [hD, h0, againD_nil]
    subst h0
    clear hD
    simp only [List.length_nil]
    go_enter Try.func140, Try.ntmps140
    go_wp2
    go_ret
    refine ⟨rfl, ?_, bAlloc (Below.refl _ _) _⟩
    rw [ED.out]
    exact ownInts_new _ _
  · have ED : Hid (D = againTo e n n) := by show _ = _; rw [hD, againTo_all h0]
    have hl : 0 < e.length := by cases e with | nil => exact absurd rfl h0 | cons _ _ => simp
    have hne : ((e.length : Int) == 0) = false := by simp; exact h0
    have HI : Hid (Ints w a e) := h
    have HP : Hid (∀ k m, k % e.length = 0 → m ≤ e.length → k + m ≤ n → paste (againTo e n k) k e m = againTo e n (k + m)) := fun k m a b c => paste_again a b c
    have HCP : Hid (∀ W g l k r dC, Below w.heap.size w W → OwnInts W g l → k + min e.length r ≤ l.length → (Builtin.copy_ #[24, 24] 3 #[.slice (some ⟨g, k, none⟩) r dC, .slice a e.length c]).run Try.prog W = .ok (.int .i64 ((min e.length r : Nat) : Int)) (W.setRow g (vals (paste l k e (min e.length r))))) := fun W g l k r dC hb ho hf => copy_paste ho (HI.out.keep hb) hf _ dC c
    clear hD h0 h he
    generalize e.length = p at *
    go_enter Try.func140, Try.ntmps140
    go_wp2
    go_loopw [6] (fun i w' => ∃ (k r : Nat) (A : Option Addr), k + r = n ∧ i = .slice A r r ∧ (0 < r → A = some ⟨w.heap.size, k, none⟩ ∧ k % p = 0) ∧ OwnInts w' w.heap.size (againTo e n k) ∧ Below w.heap.size w w') (fun i _ => match i with | .slice _ r _ => r | _ => 0)
    case atStart => exact ⟨0, n, _, by omega, rfl, fun _ => ⟨rfl, by simp⟩, by rw [againTo_zero]; exact ownInts_new _ _, bAlloc (Below.refl _ _) _⟩
    case round =>
      obtain ⟨k, r, A, hkr, rfl, hA, hO, hb⟩ := hrel
      have HK : Hid (k + r = n) := hkr
      have HO : Hid (OwnInts wr w.heap.size (againTo e n k)) := hO
      have HB : Hid (Below w.heap.size w wr) := hb
      by_cases hlt : (0 : Int) < (r : Int)
      · obtain ⟨rfl, hk⟩ := hA (by omega)
        have hcp := HCP.out wr w.heap.size (againTo e n k) k r r hb hO (by rw [againTo_length]; omega)
        rw [HP.out k (min p r) hk (by omega) (by omega)] at hcp
        have HM : Hid (min p r ≤ r ∧ 0 < min p r ∧ (0 < r - min p r → (k + min p r) % p = 0)) := ⟨by omega, by omega, fun h => by
          have : min p r = p := by omega
          rw [this, Nat.add_mod_right, hk]⟩
        generalize min p r = m at *
        have hsl := fun W => run_from (a := some ⟨w.heap.size, k, none⟩) (n := r) (c := r) (M := m) HM.out.1 (Nat.le_refl _) W
        have HO' : Hid (OwnInts (wr.setRow w.heap.size (vals (againTo e n (k + m)))) w.heap.size (againTo e n (k + m))) := hO.setRow _
        have HB' : Hid (Below w.heap.size w (wr.setRow w.heap.size (vals (againTo e n (k + m))))) := below_setRow hb (Nat.le_refl _) _
        clear hA hO hb hkr hk
        generalize hW : wr.setRow w.heap.size (vals (againTo e n (k + m))) = W at *
        clear hW
        go_wp2
        go_roundw
        case rel => exact ⟨k + m, r - m, _, by have := HK.out; have := HM.out; omega, rfl, fun h => ⟨by rw [if_neg (by omega)]; first | done | simp [Addr.add], HM.out.2.2 h⟩, HO'.out, HB'.out⟩
        case measure => have := HM.out; show r - m < r; omega
      · obtain rfl : r = 0 := by omega
        obtain rfl : k = n := by omega
        clear hA hO hb hkr
        go_wp2
        go_ret
        exact ⟨rfl, by rw [ED.out]; exact HO.out, HB.out⟩
/-- belowNought. -/
theorem belowN_impl (x : Int) (w : World) : Calls Try.prog 139 #[.int .i64 x] w fun r w' => r = .returned (.bool (decide (x < 0))) ∧ w' = w := by
  by_cases h : x < 0
  all_goals
    go_enter Try.func139, Try.ntmps139
    go_wp2
    go_ret
    exact ⟨by simp [h], rfl⟩
set_option maxRecDepth 20000 in
set_option maxHeartbeats 2000000 in
/-- slices.IndexFunc over belowNought: where there is one below nought. -/
theorem indexBelow_impl {l : List Int} {a : Option Addr} {w : World} {c : Nat} (h : Ints w a l) (hl : l.length ≤ 1048576) :
    Calls Try.prog 141 #[.slice a l.length c, .func (.func 139) #[] #[]] w fun r w' => ∃ x : Int, r = .returned (.int .i64 x) ∧ (decide (0 ≤ x) = l.any fun x => decide (x < 0)) ∧ w' = w := by
  have HI : Hid (Ints w a l) := h
  have hE : ∀ (args : Array Value) (w : World), (callFunc 139 args).run Try.prog w = .ok (.enter 139 args) w := enters_of Try.func139 (by kernel_rfl) rfl
  clear h
  go_enter Try.func141, Try.ntmps141
  go_wp2
  go_loopw [8] (fun i w' => ∃ k : Nat, k ≤ l.length ∧ i = .int .i64 (k : Int) ∧ ((l.take k).any fun x => decide (x < 0)) = false ∧ w' = w) (fun i _ => l.length - (intOf i).toNat)
  case atStart => exact ⟨0, by omega, rfl, by simp, rfl⟩
  case round =>
    obtain ⟨k, hk, rfl, ht, rfl⟩ := hrel
    have HT : Hid (((l.take k).any fun x => decide (x < 0)) = false) := ht
    clear ht
    by_cases hlt : (k : Int) < (l.length : Int)
    · have L : k < l.length := by omega
      obtain ⟨b1, o1, rfl, _, c1⟩ := HI.out.at L
      have Q : Hid (((l.take (k + 1)).any fun x => decide (x < 0)) = (((l.take k).any fun x => decide (x < 0)) || decide (l.getD k 0 < 0))) := by show _ = _; rw [take_snoc L]; simp
      have QB : Hid (l.getD k 0 < 0 → (l.any fun x => decide (x < 0)) = true) := fun h => by
        rw [List.any_eq_true]
        exact ⟨l.getD k 0, by simp [L], by simpa using h⟩
      clear L
      generalize l.getD k 0 = x at c1 Q QB
      by_cases hx : x < 0
      · have QB' : Hid ((l.any fun x => decide (x < 0)) = true) := QB.out hx
        clear Q QB
        have hd : decide (x < 0) = true := by simp [hx]
        go_wp2_with (go_at_fn 139; refine (belowN_impl x _).mono ?_; rintro r w2 ⟨rfl, hw⟩; subst w2; rw [hd])
        go_ret
        exact ⟨_, rfl, by rw [QB'.out]; simp, rfl⟩
      · have HT' : Hid (((l.take (k + 1)).any fun x => decide (x < 0)) = false) := by show _ = _; rw [Q.out, HT.out]; simpa using hx
        clear Q QB
        have hd : decide (x < 0) = false := by simpa using hx
        go_wp2_with (go_at_fn 139; refine (belowN_impl x _).mono ?_; rintro r w2 ⟨rfl, hw⟩; subst w2; rw [hd])
        go_roundw
        case rel => exact ⟨k + 1, by omega, by go_num, HT'.out, by first | trivial | rfl⟩
        case measure => simp [intOf]; omega
    · have HV : Hid ((l.any fun x => decide (x < 0)) = false) := by
        have h := HT.out
        show _ = _
        rw [List.take_of_length_le (by omega)] at h
        exact h
      go_wp2
      go_ret
      exact ⟨_, rfl, by rw [HV.out]; rfl, rfl⟩
set_option maxRecDepth 20000 in
set_option maxHeartbeats 2000000 in
/-- slices.ContainsFunc over belowNought. -/
theorem containsBelow_impl {l : List Int} {a : Option Addr} {w : World} {c : Nat} (h : Ints w a l) (hl : l.length ≤ 1048576) :
    Calls Try.prog 138 #[.slice a l.length c, .func (.func 139) #[] #[]] w fun r w' => r = .returned (.bool (l.any fun x => decide (x < 0))) ∧ w' = w := by
  have HC : Hid (Calls Try.prog 141 #[.slice a l.length c, .func (.func 139) #[] #[]] w fun r w' => ∃ x : Int, r = .returned (.int .i64 x) ∧ (decide (0 ≤ x) = l.any fun x => decide (x < 0)) ∧ w' = w) := indexBelow_impl h hl
  clear h
  generalize (l.any fun x => decide (x < 0)) = q at *
  go_enter Try.func138, Try.ntmps138
  go_wp2_with fail
  refine HC.out.mono ?_
  rintro r w1 ⟨x, rfl, hx, rfl⟩
  clear HC
  by_cases h0 : (0 : Int) ≤ x
  · have E : Hid (q = true) := by show _ = _; rw [← hx]; simpa using h0
    clear hx
    go_wp2
    go_ret
    exact ⟨by rw [E.out]; simp [h0], rfl⟩
  · have E : Hid (q = false) := by show _ = _; rw [← hx]; simpa using h0
    clear hx
    go_wp2
    go_ret
    exact ⟨by rw [E.out]; simp [h0], rfl⟩
end Go.Proofs.Ytcpgdhffemecbab
namespace Go.Proofs.Ytcpgdhffemecbab
set_option linter.unusedVariables false
theorem foldl_mul5 (a : Int) (l : List Int) : l.foldl (fun x y => x * y) a = a * l.foldl (fun x y => x * y) 1 := by
  induction l generalizing a with
  | nil => simp
  | cons x l ih => rw [List.foldl_cons, List.foldl_cons, ih (a * x), ih (1 * x), Int.one_mul, Int.mul_assoc]
theorem prodV_cons5 (x : Int) (l : List Int) : prodV (x :: l) = x * prodV l := by
  unfold prodV
  rw [List.foldl_cons, foldl_mul5, Int.one_mul]
theorem tail5 {n0 : Int} {t : List Int} (h : 0 ≤ sizeV (n0 :: t)) (hp : 0 < n0) : 0 ≤ sizeV t ∧ n0 * sizeV t = sizeV (n0 :: t) ∧ sizeV t ≤ 300 := by
  obtain ⟨k1, k2, k3, k4⟩ := sizeV_ok h
  rw [prodV_cons5] at k3 k4
  simp only [List.all_cons, Bool.and_eq_true] at k2
  have p0 := (prodV_bd t k2.2).1
  have p1 : 1 * prodV t ≤ n0 * prodV t := Int.mul_le_mul_of_nonneg_right (by omega) p0
  rw [Int.one_mul] at p1
  have e : sizeV t = prodV t := by
    unfold sizeV
    rw [if_neg (by simp at k1; omega), if_pos k2.2, if_neg (by omega)]
  rw [e]
  exact ⟨p0, by rw [← k4], by omega⟩
theorem zero5 {t : List Int} (h : 0 ≤ sizeV (0 :: t)) : sizeV (0 :: t) = 0 := by
  rw [(sizeV_ok h).2.2.2, prodV_cons5, Int.zero_mul]
theorem dim5 {n0 : Int} {t : List Int} (h : 0 ≤ sizeV (n0 :: t)) : 0 ≤ n0 ∧ n0 ≤ 300 := by
  have := (sizeV_ok h).2.1
  rw [List.all_eq_true] at this
  have := this n0 (by simp)
  simpa [dimOk] using this
theorem rowsN5 {s d : List Int} (ho : arrOk s d = true) : rowsN s ≤ 300 ∧ s.getD 0 0 = (rowsN s : Int) := by
  have := head_bd ho
  unfold rowsN
  omega
theorem rows5 {s d : List Int} (ho : arrOk s d = true) (hs : s ≠ []) : rowsN s * rowN s = d.length := by
  obtain ⟨e1, e2⟩ := rowsN5 ho
  have z := arrOk_size ho
  have h := arrOk_shape ho
  cases s with
  | nil => exact absurd rfl hs
  | cons n0 t =>
    have h0 : n0 = (rowsN (n0 :: t) : Int) := e2
    have : rowN (n0 :: t) = (sizeV t).toNat := rfl
    by_cases hp : 0 < n0
    · obtain ⟨p0, p1, p2⟩ := tail5 h hp
      have q : ((rowsN (n0 :: t) * rowN (n0 :: t) : Nat) : Int) = (d.length : Int) := by
        rw [this, Int.natCast_mul, ← h0, Int.toNat_of_nonneg p0, p1, z]
      omega
    · have hz : rowsN (n0 :: t) = 0 := by omega
      have e : n0 = 0 := by omega
      subst e
      rw [zero5 h] at z
      rw [hz, Nat.zero_mul]
      omega
/-- One chosen row: that of a number, or noughts. -/
def chosenRow (s d : List Int) (j : Int) : List Int := if 0 ≤ j ∧ j < s.getD 0 0 then rowAt s d j.toNat else List.replicate (rowN s) 0
def chosenD (s d : List Int) (φ : Nat → Int) (n : Nat) : List Int := (List.range n).flatMap fun i => chosenRow s d (φ i)
theorem rowAt_length {s d : List Int} (ho : arrOk s d = true) (hs : s ≠ []) {i : Nat} (hi : i < rowsN s) : (rowAt s d i).length = rowN s := by
  have q := rows5 ho hs
  have : (i + 1) * rowN s ≤ rowsN s * rowN s := Nat.mul_le_mul_right _ (by omega)
  rw [Nat.succ_mul] at this
  unfold rowAt
  simp
  omega
theorem chosenRow_length {s d : List Int} (ho : arrOk s d = true) (hs : s ≠ []) (j : Int) : (chosenRow s d j).length = rowN s := by
  unfold chosenRow
  split
  · rename_i h
    have := (rowsN5 ho).2
    exact rowAt_length ho hs (by omega)
  · simp
theorem flat_len {n m : Nat} {f : Nat → List Int} (h : ∀ i, (f i).length = m) : ((List.range n).flatMap f).length = n * m := by
  induction n with
  | zero => simp
  | succ n ih => rw [List.range_succ, List.flatMap_append, List.length_append, ih, Nat.succ_mul]; simp [h]
theorem chosenD_length {s d : List Int} (ho : arrOk s d = true) (hs : s ≠ []) (φ : Nat → Int) (n : Nat) : (chosenD s d φ n).length = n * rowN s := flat_len (fun i => chosenRow_length ho hs (φ i))
theorem chosenD_succ (s d : List Int) (φ : Nat → Int) (n : Nat) : chosenD s d φ (n + 1) = chosenD s d φ n ++ chosenRow s d (φ n) := by
  unfold chosenD; rw [List.range_succ, List.flatMap_append]; simp
/-- The first k rows of n are chosen. -/
def chosenTo (s d : List Int) (φ : Nat → Int) (n k : Nat) : List Int := chosenD s d φ k ++ List.replicate ((n - k) * rowN s) 0
theorem chosenTo_zero (s d : List Int) (φ : Nat → Int) (n : Nat) : chosenTo s d φ n 0 = List.replicate (n * rowN s) 0 := by simp [chosenTo, chosenD]
theorem chosenTo_all (s d : List Int) (φ : Nat → Int) (n : Nat) : chosenTo s d φ n n = chosenD s d φ n := by simp [chosenTo]
theorem chosenTo_length {s d : List Int} (ho : arrOk s d = true) (hs : s ≠ []) (φ : Nat → Int) {n k : Nat} (hk : k ≤ n) : (chosenTo s d φ n k).length = n * rowN s := by
  unfold chosenTo
  rw [List.length_append, chosenD_length ho hs, List.length_replicate, ← Nat.add_mul]
  congr 1
  omega
theorem chosenTo_no {s d : List Int} {φ : Nat → Int} {n k : Nat} (hk : k < n) (h : ¬ (0 ≤ φ k ∧ φ k < s.getD 0 0)) : chosenTo s d φ n k = chosenTo s d φ n (k + 1) := by
  unfold chosenTo
  rw [chosenD_succ]
  unfold chosenRow
  rw [if_neg h, List.append_assoc, List.replicate_append_replicate]
  congr 2
  rw [show n - k = (n - (k + 1)) + 1 by omega, Nat.succ_mul, Nat.add_comm]
theorem chosenTo_yes {s d : List Int} (ho : arrOk s d = true) (hs : s ≠ []) {φ : Nat → Int} {n k : Nat} (hk : k < n) (h : 0 ≤ φ k ∧ φ k < s.getD 0 0) : paste (chosenTo s d φ n k) (k * rowN s) (d.drop ((φ k).toNat * rowN s)) (rowN s) = chosenTo s d φ n (k + 1) := by
  have l0 := chosenD_length ho hs φ k
  unfold paste chosenTo
  rw [chosenD_succ]
  have e1 : chosenRow s d (φ k) = (d.drop ((φ k).toNat * rowN s)).take (rowN s) := by unfold chosenRow; rw [if_pos h]; rfl
  have e2 : (chosenD s d φ k).drop (k * rowN s + rowN s) = [] := List.drop_of_length_le (by omega)
  rw [e1, List.take_append_of_le_length (by omega), List.take_of_length_le (by omega), List.drop_append, l0, e2, List.nil_append, List.drop_replicate]
  congr 2
  rw [show n - k = (n - (k + 1)) + 1 by omega, Nat.succ_mul]
  omega
end Go.Proofs.Ytcpgdhffemecbab
namespace Go.Proofs.Ytcpgdhffemecbab
open Go.RowKit
set_option linter.unusedVariables false
set_option linter.unusedSimpArgs false
theorem run_between {a : Option Addr} {n c M N : Nat} (hM : M ≤ N) (hc : N ≤ c) (W : World) : (Instr.slice 24 (.slice a n c) (some (.int .i64 (M : Int))) (some (.int .i64 (N : Int))) none).run Try.prog W = .ok (.slice (if c - M = 0 then a else a.map (·.add (M * 1))) (N - M) (c - M)) W := by
  have hs : (sizeOf 3).run Try.prog W = .ok 1 W := by kernel_rfl
  have he : Try.prog.elem 24 = 3 := by kernel_rfl
  rw [run_slice_lh (P := Try.prog) (w := W) 24 a n c (by rw [he]; exact Try.underlying24) .i64 .i64 (M : Int) (N : Int) (by omega) (by omega) (by omega), he, hs]
  have e : (c = M) = (c - M = 0) := by apply propext; omega
  simp [Result.andThen, sliced, e]
theorem ints_cell5 {w : World} {b o : Nat} {l : List Int} {k : Nat} (h : Ints w (some ⟨b, o, none⟩) l) (hk : k < l.length) : w.cell? ⟨b, o + k, none⟩ = some (.int .i64 (l.getD k 0)) := by
  obtain ⟨b', o', e, hb, hc⟩ := h.at hk
  cases e
  exact hc
theorem ints_from5 {w : World} {b : Option Addr} {d : List Int} {e : Nat} (C : Nat) (h : Ints w b d) (he : d.length ≤ e) : Ints w (if e - C = 0 then b else b.map (·.add (C * 1))) (d.drop C) := by
  by_cases h0 : d.length ≤ C
  · exact .inl (List.drop_of_length_le h0)
  · rw [if_neg (by omega)]
    obtain ⟨b', o', rfl, _, _⟩ := h.at (k := 0) (by omega)
    have := ints_tail C h
    by_cases hC0 : C = 0 <;> simpa [Addr.add, hC0] using this
theorem OwnInts.keep5 {w w' : World} {g : Nat} {l : List Int} (h : OwnInts w g l) (hb : Below w.heap.size w w') : OwnInts w' g l := by
  unfold OwnInts
  rw [hb.block _ (lt_of_heapA h)]
  exact h
theorem measure5 {k n : Nat} (h : wrap64 ((k : Int) + 1) = (k : Int) + 1) (hk : k < n) : n - (wrap64 ((k : Int) + 1)).toNat < n - ((k : Int)).toNat := by
  rw [h]; omega
theorem wrap5 {a : Int} (h1 : -1000000000000000 ≤ a) (h2 : a ≤ 1000000000000000) : wrap64 a = a := by unfold wrap64; omega
/-- A row is copied to its place. -/
theorem copy_row5 {w : World} {g m A B C L e : Nat} {l d : List Int} {b : Option Addr} (ho : OwnInts w g l) (hl : l.length = m) (hi : Ints w b d) (he : d.length ≤ e) (hA : A + L = B) (hB : B ≤ m) (hC : C + L ≤ d.length) (ty : TypeId) :
    (Builtin.copy_ #[24, 24] ty #[.slice (if m - A = 0 then some ⟨g, 0, none⟩ else (some (⟨g, 0, none⟩ : Addr)).map (·.add (A * 1))) (B - A) (m - A), .slice (if e - C = 0 then b else b.map (·.add (C * 1))) (d.length - C) (e - C)]).run Try.prog w = .ok (.int .i64 (L : Int)) (w.setRow g (vals (paste l A (d.drop C) L))) := by
  have hi' := ints_from5 (e := e) C hi he
  have hL : B - A = L := by omega
  have hd : (d.drop C).length = d.length - C := by simp
  rw [hL]
  by_cases h0 : m - A = 0
  · obtain rfl : L = 0 := by omega
    rw [if_pos h0, paste_zero, setRow_self w g (vals l) _ _ ho]
    exact run_copy_none (P := Try.prog) _ 24 24 ty 3 _ _ _ _ _ _ Try.underlying24 int_size (Nat.min_zero _)
  · rw [if_neg h0]
    have q := copy_paste (k := A) (n := L) (l := l) ho hi' (by rw [hd]; omega) ty (m - A) (e - C)
    rw [hd, Nat.min_eq_right (by omega)] at q
    have e1 : (some (⟨g, 0, none⟩ : Addr)).map (·.add (A * 1)) = some ⟨g, A, none⟩ := by
      by_cases hA0 : A = 0 <;> simp [Addr.add, hA0]
    rw [e1]
    exact q
set_option maxRecDepth 20000 in
set_option maxHeartbeats 4000000 in
/-- chosenRows. -/
theorem chosen_impl {s d : List Int} {w : World} {v p : Value} {f n : Nat} {φ : Nat → Int} {z : Int} (hzn : z = (n : Int)) (hE : ∀ (args : Array Value) (w : World), (callFunc f args).run Try.prog w = .ok (.enter f args) w) (h : ArrI w v s d) (ho : arrOk s d = true) (hs : s ≠ []) (hz : 0 ≤ sizeV ((n : Int) :: s.drop 1))
    (hV : ∀ (W : World) (k : Nat), k < n → Below w.heap.size w W → Calls Try.prog f #[.int .i64 (k : Int), p] W fun r W' => r = .returned (.int .i64 (φ k)) ∧ Below W.heap.size W W') :
    Calls Try.prog 122 #[v, .int .i64 z, .func (.func f) #[] #[p]] w fun r w' => ∃ v', r = .returned v' ∧ Arr w.heap.size w'.heap.size w' v' ((n : Int) :: s.drop 1) (chosenD s d φ n) ∧ Below w.heap.size w w' := by
  obtain ⟨a, c, b, e, rfl, i1, i2, g1, g2⟩ := h
  have hsl : s.length ≤ 1048576 := by have := (sizeV_ok (arrOk_shape ho)).1; omega
  have HOR : Hid (∀ W, Below w.heap.size w W → Calls Try.prog 136 #[.slice a s.length c, .int .i64 z] W fun r w' => ∃ a' c', r = .returned (.slice a' ((n : Int) :: s.drop 1).length c') ∧ Piece W.heap.size w'.heap.size w' (.slice a' ((n : Int) :: s.drop 1).length c') ((n : Int) :: s.drop 1) ∧ Below W.heap.size W w') := fun W hb => by rw [hzn]; exact ofRows_impl (n : Int) (IntsI.keep ⟨a, c, rfl, g1, i1⟩ hb) hsl hs
  have HV : Hid (∀ (W : World) (k : Nat), k < n → Below w.heap.size w W → Calls Try.prog f #[.int .i64 (k : Int), p] W fun r W' => r = .returned (.int .i64 (φ k)) ∧ Below W.heap.size W W') := hV
  have hm : sizeV ((n : Int) :: s.drop 1) = ((n * rowN s : Nat) : Int) := by
    by_cases h0 : (n : Int) = 0
    · have : n = 0 := by omega
      subst this
      rw [Nat.zero_mul]
      exact zero5 hz
    · obtain ⟨p0, p1, p2⟩ := tail5 hz (by omega)
      rw [← p1, Int.natCast_mul]
      unfold rowN
      rw [Int.toNat_of_nonneg p0]
  have hz3 := sizeV_bd ((n : Int) :: s.drop 1)
  have hn3 := dim5 hz
  have HSZ : Hid (∀ W a' c', Ints W a' ((n : Int) :: s.drop 1) → Calls Try.prog 76 #[.slice a' ((n : Int) :: s.drop 1).length c'] W fun r w' => r = .returned (.int .i64 ((n * rowN s : Nat) : Int)) ∧ Below W.heap.size W w') := fun W a' c' h => by
    have q := size_impl c' h
    rw [hm] at q
    exact q
  have HTO0 : Hid (chosenTo s d φ n 0 = List.replicate (n * rowN s) 0) := chosenTo_zero s d φ n
  have HTOA : Hid (chosenTo s d φ n n = chosenD s d φ n) := chosenTo_all s d φ n
  have HTOL : Hid (∀ k, k ≤ n → (chosenTo s d φ n k).length = n * rowN s) := fun k hk => chosenTo_length ho hs φ hk
  have HTON : Hid (∀ k, k < n → ¬ (0 ≤ φ k ∧ φ k < s.getD 0 0) → chosenTo s d φ n k = chosenTo s d φ n (k + 1)) := fun k hk h => chosenTo_no hk h
  have HTOY : Hid (∀ k, k < n → 0 ≤ φ k ∧ φ k < s.getD 0 0 → paste (chosenTo s d φ n k) (k * rowN s) (d.drop ((φ k).toNat * rowN s)) (rowN s) = chosenTo s d φ n (k + 1)) := fun k hk h => chosenTo_yes ho hs hk h
  have HRW : Hid (∀ j : Int, 0 ≤ j → j < s.getD 0 0 → j.toNat * rowN s + rowN s ≤ d.length ∧ j ≤ 300) := fun j h0 h1 => by
    have q := rows5 ho hs
    obtain ⟨r1, r2⟩ := rowsN5 ho
    have : (j.toNat + 1) * rowN s ≤ rowsN s * rowN s := Nat.mul_le_mul_right _ (by omega)
    rw [Nat.succ_mul] at this
    omega
  have HD3 : Hid (d.length ≤ 300) := arrOk_len ho
  obtain ⟨ab, ao, rfl, _, _⟩ := i1.at (k := 0) (List.length_pos_iff.2 hs)
  have HN0 : Hid (∀ W, Below w.heap.size w W → W.cell? ⟨ab, ao, none⟩ = some (.int .i64 (s.getD 0 0))) := fun W hb => ints_cell5 (i1.keep hb) (List.length_pos_iff.2 hs)
  have HI2 : Hid (Ints w b d) := i2
  have HG2 : Hid (d.length ≤ e) := g2
  have hsp : 0 < s.length := List.length_pos_iff.2 hs
  have hmk : ∀ w, (Instr.makeSlice 24 (.int .i64 ((n * rowN s : Nat) : Int)) (.int .i64 ((n * rowN s : Nat) : Int))).run Try.prog w = .ok (.slice (some ⟨w.heap.size, 0, none⟩) (n * rowN s) (n * rowN s)) (w.alloc (.cells (vals (List.replicate (n * rowN s) 0)) 3)) := fun w => make_ints (n * rowN s) (by omega) w
  have HM : Hid (n * rowN s ≤ 300 ∧ n ≤ 300) := ⟨by omega, by omega⟩
  have HML : Hid (∀ k, k < n → (k + 1) * rowN s ≤ n * rowN s) := fun k hk => Nat.mul_le_mul_right _ hk
  have HQ : Hid (0 < n → Int.tdiv ((n * rowN s : Nat) : Int) z = (rowN s : Int)) := fun h => by
    rw [hzn, Int.natCast_mul, Int.mul_tdiv_cancel_left _ (by omega)]
  have HW : Hid (∀ k : Nat, k < n → wrap64 ((k : Int) + 1) = (k : Int) + 1 ∧ wrap64 ((k : Int) * (rowN s : Int)) = ((k * rowN s : Nat) : Int) ∧ wrap64 (((k : Int) + 1) * (rowN s : Int)) = (((k + 1) * rowN s : Nat) : Int)) := fun k hk => by
    have h1 : k * rowN s + rowN s = (k + 1) * rowN s := (Nat.succ_mul k _).symm
    have h2 : (k + 1) * rowN s ≤ n * rowN s := Nat.mul_le_mul_right _ hk
    refine ⟨wrap5 (by omega) (by omega), ?_, ?_⟩
    · rw [← Int.natCast_mul]; exact wrap5 (by omega) (by omega)
    · have : ((k : Int) + 1) * (rowN s : Int) = (((k + 1) * rowN s : Nat) : Int) := by rw [Int.natCast_mul]; rfl
      rw [this]; exact wrap5 (by omega) (by omega)
  have HWJ : Hid (∀ j : Int, 0 ≤ j → j < s.getD 0 0 → wrap64 (j * (rowN s : Int)) = ((j.toNat * rowN s : Nat) : Int)) := fun j h0 h1 => by
    obtain ⟨q1, q2⟩ := HRW.out j h0 h1
    have := HD3.out
    have : j * (rowN s : Int) = ((j.toNat * rowN s : Nat) : Int) := by rw [Int.natCast_mul, Int.toNat_of_nonneg h0]
    rw [this]; exact wrap5 (by omega) (by omega)
  have HWL : Hid (0 < n → wrap64 (rowN s : Int) = (rowN s : Int)) := fun h0 => by
    have h2 : 1 * rowN s ≤ n * rowN s := Nat.mul_le_mul_right _ h0
    exact wrap5 (by omega) (by omega)
  have HCY : Hid (∀ (k g : Nat) (j : Int) (W : World), k < n → 0 ≤ j → j < s.getD 0 0 → φ k = j → OwnInts W g (chosenTo s d φ n k) → Ints W b d → (Builtin.copy_ #[24, 24] 3 #[.slice (if n * rowN s - k * rowN s = 0 then some ⟨g, 0, none⟩ else (some (⟨g, 0, none⟩ : Addr)).map (·.add (k * rowN s * 1))) ((k + 1) * rowN s - k * rowN s) (n * rowN s - k * rowN s), .slice (if e - j.toNat * rowN s = 0 then b else b.map (·.add (j.toNat * rowN s * 1))) (d.length - j.toNat * rowN s) (e - j.toNat * rowN s)]).run Try.prog W = .ok (.int .i64 (rowN s : Int)) (W.setRow g (vals (chosenTo s d φ n (k + 1))))) := fun k g j W hk h0 h1 hj ho' hi => by
    have q := copy_row5 ho' (HTOL.out k (Nat.le_of_lt hk)) hi g2 (Nat.succ_mul k (rowN s)).symm (HML.out k hk) (HRW.out j h0 h1).1 3
    rw [← hj, HTOY.out k hk (by rw [hj]; exact ⟨h0, h1⟩), hj] at q
    exact q
  have HSA : Hid (∀ (k g : Nat) (W : World), k < n → (Instr.slice 24 (.slice (some ⟨g, 0, none⟩) (n * rowN s) (n * rowN s)) (some (.int .i64 ((k * rowN s : Nat) : Int))) (some (.int .i64 (((k + 1) * rowN s : Nat) : Int))) none).run Try.prog W = .ok (.slice (if n * rowN s - k * rowN s = 0 then some ⟨g, 0, none⟩ else (some (⟨g, 0, none⟩ : Addr)).map (·.add (k * rowN s * 1))) ((k + 1) * rowN s - k * rowN s) (n * rowN s - k * rowN s)) W) := fun k g W hk => run_between (Nat.mul_le_mul_right _ (Nat.le_succ k)) (HML.out k hk) W
  have HSB : Hid (∀ (j : Int) (W : World), 0 ≤ j → j < s.getD 0 0 → (Instr.slice 24 (.slice b d.length e) (some (.int .i64 ((j.toNat * rowN s : Nat) : Int))) none none).run Try.prog W = .ok (.slice (if e - j.toNat * rowN s = 0 then b else b.map (·.add (j.toNat * rowN s * 1))) (d.length - j.toNat * rowN s) (e - j.toNat * rowN s)) W) := fun j W h0 h1 => run_from (by have := (HRW.out j h0 h1).1; omega) g2 W
  obtain ⟨S, hS⟩ : ∃ S, S = (n : Int) :: s.drop 1 := ⟨_, rfl⟩
  obtain ⟨D, hD⟩ : ∃ D, D = chosenD s d φ n := ⟨_, rfl⟩
  rw [← hS] at HOR HSZ ⊢
  rw [← hD] at HTOA ⊢
  have HZ : Hid (z = (n : Int)) := hzn
  clear hzn hS hD hV ho hz hm i1 i2 g1 g2 hsl hs hz3 hn3 HTOY HRW HML HD3
  generalize rowN s = L at *
  generalize s.getD 0 0 = N at *
  generalize hN : n * L = m at *
  have HN : Hid (n * L = m) := hN
  clear hN
  generalize hTO : chosenTo s d φ n = TO at *
  clear hTO
  go_enter Try.func122, Try.ntmps122
  go_wp2_with fail
  refine (HOR.out _ (bAlloc (bAlloc (Below.refl _ _) _) _)).mono ?_
  rintro r w1 ⟨a1, c1, rfl, hp, hb⟩
  have HB1 : Hid (Below w.heap.size w w1) := bTrans (bAlloc (bAlloc (Below.refl _ _) _) _) hb
  have X1 : Hid (Box w1 w.heap.size (.slice (some ⟨ab, ao, none⟩) s.length c) (.slice b d.length e) 26) := ((box_new w _ _ _).keep (bAlloc (Below.refl _ _) _)).keep hb
  have R1 : Hid (Box w1 (w.heap.size + 1) (.slice none 0 0) (.slice none 0 0) 26) := (box_new2 w _ _ _ _).keep hb
  have P1 : Hid (Piece (w.heap.size + 2) w1.heap.size w1 (.slice a1 S.length c1) S) := by show Piece _ _ _ _ _; simpa using hp
  have I1 : Hid (Ints w1 a1 S) := by
    obtain ⟨q1, q2, q3, q4⟩ := hp.ints
    cases q3
    exact q4
  have LT : Hid (w.heap.size + 2 ≤ w1.heap.size) := by have := hb.size; show _ ≤ _; simpa using this
  clear hp hb
  go_wp2_with fail
  refine (HSZ.out _ _ _ I1.out).mono ?_
  rintro r w2 ⟨rfl, hb⟩
  have HB2 : Hid (Below w.heap.size w w2) := bTrans HB1.out hb
  have X2 : Hid (Box w2 w.heap.size (.slice (some ⟨ab, ao, none⟩) s.length c) (.slice b d.length e) 26) := X1.out.keep hb
  have R2 : Hid (Box w2 (w.heap.size + 1) (.slice none 0 0) (.slice none 0 0) 26) := R1.out.keep hb
  have P2 : Hid (Piece (w.heap.size + 2) w1.heap.size w2 (.slice a1 S.length c1) S) := P1.out.keep hb
  have LT2 : Hid (w1.heap.size ≤ w2.heap.size) := hb.size
  clear hb X1 R1 P1 I1 HB1 HOR HSZ
  go_wp2
  generalize hW : w2.alloc (.cells (vals (List.replicate m 0)) 3) = W
  have HBW : Hid (Below w2.heap.size w2 W) := by rw [← hW]; exact bAlloc (Below.refl _ _) _
  have HOW : Hid (OwnInts W w2.heap.size (TO 0)) := by rw [← hW, HTO0.out]; exact ownInts_new _ _
  clear hW hmk
  go_loopw [20] (fun i w' => ∃ k : Nat, k ≤ n ∧ i = .int .i64 (k : Int) ∧ OwnInts w' w2.heap.size (TO k) ∧ Below w2.heap.size w2 w') (fun i _ => n - (intOf i).toNat)
  case atStart => exact ⟨0, by omega, rfl, HOW.out, HBW.out⟩
  case round =>
    obtain ⟨k, hk, rfl, hO, hb⟩ := hrel
    have HO : Hid (OwnInts wr w2.heap.size (TO k)) := hO
    have HB : Hid (Below w2.heap.size w2 wr) := hb
    clear hO hb HOW HBW
    have hzn := HZ.out
    by_cases hlt : (k : Int) < z
    · have HLT : Hid (k < n) := by show _ < _; omega
      have hq := HQ.out (by omega)
      have hn0 : z ≠ 0 := by omega
      have HVK : Hid (Calls Try.prog f #[.int .i64 (k : Int), p] wr fun r W' => r = .returned (.int .i64 (φ k)) ∧ Below wr.heap.size wr W') := HV.out wr k HLT.out (bTrans HB2.out HB.out)
      have TN : Hid (¬ (0 ≤ φ k ∧ φ k < N) → TO k = TO (k + 1)) := HTON.out k HLT.out
      clear hzn
      have hwL := HWL.out (Nat.lt_of_le_of_lt (Nat.zero_le _) HLT.out)
      have hz3 : z ≤ 300 := by have := HZ.out; have := HM.out; omega
      have HCK := HCY.out k w2.heap.size (φ k)
      generalize φ k = j at *
      by_cases hj : 0 ≤ j
      · by_cases hj2 : j < N
        · have HCP : Hid (∀ W, OwnInts W w2.heap.size (TO k) → Ints W b d → (Builtin.copy_ #[24, 24] 3 #[.slice (if m - k * L = 0 then some ⟨w2.heap.size, 0, none⟩ else (some (⟨w2.heap.size, 0, none⟩ : Addr)).map (·.add (k * L * 1))) ((k + 1) * L - k * L) (m - k * L), .slice (if e - j.toNat * L = 0 then b else b.map (·.add (j.toNat * L * 1))) (d.length - j.toNat * L) (e - j.toNat * L)]).run Try.prog W = .ok (.int .i64 (L : Int)) (W.setRow w2.heap.size (vals (TO (k + 1))))) := fun W h1 h2 => HCK W HLT.out hj hj2 rfl h1 h2
          have hs1 := fun W => HSA.out k w2.heap.size W HLT.out
          have hs2 := fun W => HSB.out j W hj hj2
          obtain ⟨hk1, w1', w2'⟩ := HW.out k HLT.out
          have HZ3 : Hid (z ≤ 300 ∧ (k : Int) < z) := ⟨hz3, hlt⟩
          have HW4 : Hid (wrap64 ((k : Int) + 1) = (k : Int) + 1 ∧ wrap64 ((k : Int) * (L : Int)) = ((k * L : Nat) : Int) ∧ wrap64 (((k : Int) + 1) * (L : Int)) = (((k + 1) * L : Nat) : Int)) := ⟨hk1, w1', w2'⟩
          clear hk1 w1' w2'
          have HW3 : Hid (wrap64 (j * (L : Int)) = ((j.toNat * L : Nat) : Int)) := HWJ.out j hj hj2
          clear TN HCK HSA HSB HW HWJ HCY HTON HTOL
          generalize (if m - k * L = 0 then some ⟨w2.heap.size, 0, none⟩ else (some (⟨w2.heap.size, 0, none⟩ : Addr)).map (·.add (k * L * 1))) = A1 at *
          generalize (if e - j.toNat * L = 0 then b else b.map (·.add (j.toNat * L * 1))) = A2 at *
          generalize (k + 1) * L - k * L = n1 at *
          generalize m - k * L = n2 at *
          generalize d.length - j.toNat * L = n3 at *
          generalize e - j.toNat * L = n4 at *
          generalize (k + 1) * L = n5 at *
          generalize k * L = n6 at *
          generalize j.toNat * L = n7 at *
          go_wp2_with (go_at_fn f; refine HVK.out.mono ?_; rintro r w3 ⟨rfl, hb⟩; have HB3 : Hid (Below w2.heap.size w2 w3) := bTrans HB.out hb; have HO3 : Hid (OwnInts w3 w2.heap.size (TO k)) := (HO.out.keep5 hb); have x0 := (X2.out.keep HB3.out).c0; have x1 := (X2.out.keep HB3.out).c1; have xn := HN0.out _ (bTrans HB2.out HB3.out); have hcp := HCP.out w3.drew (HO3.out.keep5 (Below.refl w3.heap.size w3).drew) (HI2.out.keep (bTrans HB2.out HB3.out.drew)); clear hb)
          have HO4 : Hid (OwnInts (w3.drew.setRow w2.heap.size (vals (TO (k + 1)))) w2.heap.size (TO (k + 1))) := (HO3.out.keep5 (Below.refl w3.heap.size w3).drew).setRow _
          have HB4 : Hid (Below w2.heap.size w2 (w3.drew.setRow w2.heap.size (vals (TO (k + 1))))) := below_setRow HB3.out.drew (Nat.le_refl _) _
          generalize hW : w3.drew.setRow w2.heap.size (vals (TO (k + 1))) = W4 at *
          clear hW
          obtain ⟨hk1, w1', w2'⟩ := HW4.out
          have w3' := HW3.out
          clear hz3 hlt
          go_region
          obtain ⟨hz3, hlt⟩ := HZ3.out
          clear hk1 w1' w2' w3' hs1 hs2 hcp x0 x1 xn
          go_wp2
          go_roundw
          case rel => exact ⟨k + 1, HLT.out, by go_num, HO4.out, HB4.out⟩
          case measure => simp [intOf]; have := HLT.out; omega
        · have HT' : Hid (TO k = TO (k + 1)) := TN.out (fun q => hj2 q.2)
          clear TN HCK
          go_wp2_with (go_at_fn f; refine HVK.out.mono ?_; rintro r w3 ⟨rfl, hb⟩; have HB3 : Hid (Below w2.heap.size w2 w3) := bTrans HB.out hb; have HO3 : Hid (OwnInts w3 w2.heap.size (TO k)) := (HO.out.keep5 hb); have x0 := (X2.out.keep HB3.out).c0; have xn := HN0.out _ (bTrans HB2.out HB3.out); clear hb)
          go_roundw
          case rel => exact ⟨k + 1, HLT.out, by go_num, by rw [← HT'.out]; exact HO3.out, HB3.out⟩
          case measure => simp [intOf]; have := HLT.out; omega
      · have HT' : Hid (TO k = TO (k + 1)) := TN.out (fun q => hj q.1)
        clear TN HCK
        go_wp2_with (go_at_fn f; refine HVK.out.mono ?_; rintro r w3 ⟨rfl, hb⟩; have HB3 : Hid (Below w2.heap.size w2 w3) := bTrans HB.out hb; have HO3 : Hid (OwnInts w3 w2.heap.size (TO k)) := (HO.out.keep5 hb); clear hb)
        go_roundw
        case rel => exact ⟨k + 1, HLT.out, by go_num, by rw [← HT'.out]; exact HO3.out, HB3.out⟩
        case measure => simp [intOf]; have := HLT.out; omega
    · obtain rfl : k = n := by omega
      clear hzn
      have LD : Hid (D.length = m) := by show _ = _; rw [← HTOA.out]; exact HTOL.out k (Nat.le_refl _)
      have R3 : Hid (Box wr (w.heap.size + 1) (.slice none 0 0) (.slice none 0 0) 26) := R2.out.keep HB.out
      have P3 : Hid (Piece (w.heap.size + 2) w1.heap.size wr (.slice a1 S.length c1) S) := P2.out.keep HB.out
      have PD : Hid (Piece w2.heap.size (w2.heap.size + 1) wr (.slice (some ⟨w2.heap.size, 0, none⟩) m m) D) := by
        have q := OwnInts.piece HO.out (B := w2.heap.size) (C := w2.heap.size + 1) (Nat.le_refl _) (by omega) m (by rw [HTOL.out k (Nat.le_refl _)]; exact Nat.le_refl _)
        rw [HTOL.out k (Nat.le_refl _), HTOA.out] at q
        exact q
      have LW : Hid (w2.heap.size + 1 ≤ wr.heap.size) := lt_of_heapA HO.out
      have HB5 : Hid (Below w.heap.size w wr) := bTrans HB2.out HB.out
      have y0 := R3.out.c0
      have y1 := R3.out.c1
      have f0 : wr.frozen? ⟨w.heap.size + 1, 0, none⟩ = false := free_at R3.out 0
      have f1 : wr.frozen? ⟨w.heap.size + 1, 1, none⟩ = false := free_at R3.out 1
      have HR : Hid (((wr.setCell ⟨w.heap.size + 1, 0, none⟩ (.slice a1 S.length c1)).setCell ⟨w.heap.size + 1, 1, none⟩ (.slice (some ⟨w2.heap.size, 0, none⟩) m m)).heap[w.heap.size + 1]? = some (.cells #[.slice a1 S.length c1, .slice (some ⟨w2.heap.size, 0, none⟩) m m] 26 (0, 0))) := arr_stored R3.out
      go_wp2
      refine bodyPost_ret (v := .agg #[.slice a1 S.length c1, .slice (some ⟨w2.heap.size, 0, none⟩) m m]) (results_arr rfl _ _ (w.heap.size + 1) _ _ rfl HR.out) rfl ?_
      refine ⟨_, rfl, ?_, below_setCell (below_setCell HB5.out (by omega) _ _) (by omega) _ _⟩
      have L1 := LT.out
      have L2 := LT2.out
      have L3 := LW.out
      have p1' := (P3.out.win (win_setCell wr (w.heap.size + 1) 0 (.slice a1 S.length c1)) (.inr (by omega))).win (win_setCell _ (w.heap.size + 1) 1 (.slice (some ⟨w2.heap.size, 0, none⟩) m m)) (.inr (by omega))
      have p2' := (PD.out.win (win_setCell wr (w.heap.size + 1) 0 (.slice a1 S.length c1)) (.inr (by omega))).win (win_setCell _ (w.heap.size + 1) 1 (.slice (some ⟨w2.heap.size, 0, none⟩) m m)) (.inr (by omega))
      exact ⟨_, _, rfl, p1'.mono (by omega) (by simp only [size_setCell]; omega), p2'.mono (by omega) (by simp only [size_setCell]; omega), p1'.apart p2' (.inl (by omega))⟩
set_option maxRecDepth 20000 in
set_option maxHeartbeats 4000000 in
/-- chosenRows. -/
theorem chosen2_impl {s d : List Int} {w : World} {v p q : Value} {f n : Nat} {φ : Nat → Int} {z : Int} (hzn : z = (n : Int)) (hE : ∀ (args : Array Value) (w : World), (callFunc f args).run Try.prog w = .ok (.enter f args) w) (h : ArrI w v s d) (ho : arrOk s d = true) (hs : s ≠ []) (hz : 0 ≤ sizeV ((n : Int) :: s.drop 1))
    (hV : ∀ (W : World) (k : Nat), k < n → Below w.heap.size w W → Calls Try.prog f #[.int .i64 (k : Int), p, q] W fun r W' => r = .returned (.int .i64 (φ k)) ∧ Below W.heap.size W W') :
    Calls Try.prog 122 #[v, .int .i64 z, .func (.func f) #[] #[p, q]] w fun r w' => ∃ v', r = .returned v' ∧ Arr w.heap.size w'.heap.size w' v' ((n : Int) :: s.drop 1) (chosenD s d φ n) ∧ Below w.heap.size w w' := by
  obtain ⟨a, c, b, e, rfl, i1, i2, g1, g2⟩ := h
  have hsl : s.length ≤ 1048576 := by have := (sizeV_ok (arrOk_shape ho)).1; omega
  have HOR : Hid (∀ W, Below w.heap.size w W → Calls Try.prog 136 #[.slice a s.length c, .int .i64 z] W fun r w' => ∃ a' c', r = .returned (.slice a' ((n : Int) :: s.drop 1).length c') ∧ Piece W.heap.size w'.heap.size w' (.slice a' ((n : Int) :: s.drop 1).length c') ((n : Int) :: s.drop 1) ∧ Below W.heap.size W w') := fun W hb => by rw [hzn]; exact ofRows_impl (n : Int) (IntsI.keep ⟨a, c, rfl, g1, i1⟩ hb) hsl hs
  have HV : Hid (∀ (W : World) (k : Nat), k < n → Below w.heap.size w W → Calls Try.prog f #[.int .i64 (k : Int), p, q] W fun r W' => r = .returned (.int .i64 (φ k)) ∧ Below W.heap.size W W') := hV
  have hm : sizeV ((n : Int) :: s.drop 1) = ((n * rowN s : Nat) : Int) := by
    by_cases h0 : (n : Int) = 0
    · have : n = 0 := by omega
      subst this
      rw [Nat.zero_mul]
      exact zero5 hz
    · obtain ⟨p0, p1, p2⟩ := tail5 hz (by omega)
      rw [← p1, Int.natCast_mul]
      unfold rowN
      rw [Int.toNat_of_nonneg p0]
  have hz3 := sizeV_bd ((n : Int) :: s.drop 1)
  have hn3 := dim5 hz
  have HSZ : Hid (∀ W a' c', Ints W a' ((n : Int) :: s.drop 1) → Calls Try.prog 76 #[.slice a' ((n : Int) :: s.drop 1).length c'] W fun r w' => r = .returned (.int .i64 ((n * rowN s : Nat) : Int)) ∧ Below W.heap.size W w') := fun W a' c' h => by
    have q := size_impl c' h
    rw [hm] at q
    exact q
  have HTO0 : Hid (chosenTo s d φ n 0 = List.replicate (n * rowN s) 0) := chosenTo_zero s d φ n
  have HTOA : Hid (chosenTo s d φ n n = chosenD s d φ n) := chosenTo_all s d φ n
  have HTOL : Hid (∀ k, k ≤ n → (chosenTo s d φ n k).length = n * rowN s) := fun k hk => chosenTo_length ho hs φ hk
  have HTON : Hid (∀ k, k < n → ¬ (0 ≤ φ k ∧ φ k < s.getD 0 0) → chosenTo s d φ n k = chosenTo s d φ n (k + 1)) := fun k hk h => chosenTo_no hk h
  have HTOY : Hid (∀ k, k < n → 0 ≤ φ k ∧ φ k < s.getD 0 0 → paste (chosenTo s d φ n k) (k * rowN s) (d.drop ((φ k).toNat * rowN s)) (rowN s) = chosenTo s d φ n (k + 1)) := fun k hk h => chosenTo_yes ho hs hk h
  have HRW : Hid (∀ j : Int, 0 ≤ j → j < s.getD 0 0 → j.toNat * rowN s + rowN s ≤ d.length ∧ j ≤ 300) := fun j h0 h1 => by
    have q := rows5 ho hs
    obtain ⟨r1, r2⟩ := rowsN5 ho
    have : (j.toNat + 1) * rowN s ≤ rowsN s * rowN s := Nat.mul_le_mul_right _ (by omega)
    rw [Nat.succ_mul] at this
    omega
  have HD3 : Hid (d.length ≤ 300) := arrOk_len ho
  obtain ⟨ab, ao, rfl, _, _⟩ := i1.at (k := 0) (List.length_pos_iff.2 hs)
  have HN0 : Hid (∀ W, Below w.heap.size w W → W.cell? ⟨ab, ao, none⟩ = some (.int .i64 (s.getD 0 0))) := fun W hb => ints_cell5 (i1.keep hb) (List.length_pos_iff.2 hs)
  have HI2 : Hid (Ints w b d) := i2
  have HG2 : Hid (d.length ≤ e) := g2
  have hsp : 0 < s.length := List.length_pos_iff.2 hs
  have hmk : ∀ w, (Instr.makeSlice 24 (.int .i64 ((n * rowN s : Nat) : Int)) (.int .i64 ((n * rowN s : Nat) : Int))).run Try.prog w = .ok (.slice (some ⟨w.heap.size, 0, none⟩) (n * rowN s) (n * rowN s)) (w.alloc (.cells (vals (List.replicate (n * rowN s) 0)) 3)) := fun w => make_ints (n * rowN s) (by omega) w
  have HM : Hid (n * rowN s ≤ 300 ∧ n ≤ 300) := ⟨by omega, by omega⟩
  have HML : Hid (∀ k, k < n → (k + 1) * rowN s ≤ n * rowN s) := fun k hk => Nat.mul_le_mul_right _ hk
  have HQ : Hid (0 < n → Int.tdiv ((n * rowN s : Nat) : Int) z = (rowN s : Int)) := fun h => by
    rw [hzn, Int.natCast_mul, Int.mul_tdiv_cancel_left _ (by omega)]
  have HW : Hid (∀ k : Nat, k < n → wrap64 ((k : Int) + 1) = (k : Int) + 1 ∧ wrap64 ((k : Int) * (rowN s : Int)) = ((k * rowN s : Nat) : Int) ∧ wrap64 (((k : Int) + 1) * (rowN s : Int)) = (((k + 1) * rowN s : Nat) : Int)) := fun k hk => by
    have h1 : k * rowN s + rowN s = (k + 1) * rowN s := (Nat.succ_mul k _).symm
    have h2 : (k + 1) * rowN s ≤ n * rowN s := Nat.mul_le_mul_right _ hk
    refine ⟨wrap5 (by omega) (by omega), ?_, ?_⟩
    · rw [← Int.natCast_mul]; exact wrap5 (by omega) (by omega)
    · have : ((k : Int) + 1) * (rowN s : Int) = (((k + 1) * rowN s : Nat) : Int) := by rw [Int.natCast_mul]; rfl
      rw [this]; exact wrap5 (by omega) (by omega)
  have HWJ : Hid (∀ j : Int, 0 ≤ j → j < s.getD 0 0 → wrap64 (j * (rowN s : Int)) = ((j.toNat * rowN s : Nat) : Int)) := fun j h0 h1 => by
    obtain ⟨q1, q2⟩ := HRW.out j h0 h1
    have := HD3.out
    have : j * (rowN s : Int) = ((j.toNat * rowN s : Nat) : Int) := by rw [Int.natCast_mul, Int.toNat_of_nonneg h0]
    rw [this]; exact wrap5 (by omega) (by omega)
  have HWL : Hid (0 < n → wrap64 (rowN s : Int) = (rowN s : Int)) := fun h0 => by
    have h2 : 1 * rowN s ≤ n * rowN s := Nat.mul_le_mul_right _ h0
    exact wrap5 (by omega) (by omega)
  have HCY : Hid (∀ (k g : Nat) (j : Int) (W : World), k < n → 0 ≤ j → j < s.getD 0 0 → φ k = j → OwnInts W g (chosenTo s d φ n k) → Ints W b d → (Builtin.copy_ #[24, 24] 3 #[.slice (if n * rowN s - k * rowN s = 0 then some ⟨g, 0, none⟩ else (some (⟨g, 0, none⟩ : Addr)).map (·.add (k * rowN s * 1))) ((k + 1) * rowN s - k * rowN s) (n * rowN s - k * rowN s), .slice (if e - j.toNat * rowN s = 0 then b else b.map (·.add (j.toNat * rowN s * 1))) (d.length - j.toNat * rowN s) (e - j.toNat * rowN s)]).run Try.prog W = .ok (.int .i64 (rowN s : Int)) (W.setRow g (vals (chosenTo s d φ n (k + 1))))) := fun k g j W hk h0 h1 hj ho' hi => by
    have q := copy_row5 ho' (HTOL.out k (Nat.le_of_lt hk)) hi g2 (Nat.succ_mul k (rowN s)).symm (HML.out k hk) (HRW.out j h0 h1).1 3
    rw [← hj, HTOY.out k hk (by rw [hj]; exact ⟨h0, h1⟩), hj] at q
    exact q
  have HSA : Hid (∀ (k g : Nat) (W : World), k < n → (Instr.slice 24 (.slice (some ⟨g, 0, none⟩) (n * rowN s) (n * rowN s)) (some (.int .i64 ((k * rowN s : Nat) : Int))) (some (.int .i64 (((k + 1) * rowN s : Nat) : Int))) none).run Try.prog W = .ok (.slice (if n * rowN s - k * rowN s = 0 then some ⟨g, 0, none⟩ else (some (⟨g, 0, none⟩ : Addr)).map (·.add (k * rowN s * 1))) ((k + 1) * rowN s - k * rowN s) (n * rowN s - k * rowN s)) W) := fun k g W hk => run_between (Nat.mul_le_mul_right _ (Nat.le_succ k)) (HML.out k hk) W
  have HSB : Hid (∀ (j : Int) (W : World), 0 ≤ j → j < s.getD 0 0 → (Instr.slice 24 (.slice b d.length e) (some (.int .i64 ((j.toNat * rowN s : Nat) : Int))) none none).run Try.prog W = .ok (.slice (if e - j.toNat * rowN s = 0 then b else b.map (·.add (j.toNat * rowN s * 1))) (d.length - j.toNat * rowN s) (e - j.toNat * rowN s)) W) := fun j W h0 h1 => run_from (by have := (HRW.out j h0 h1).1; omega) g2 W
  obtain ⟨S, hS⟩ : ∃ S, S = (n : Int) :: s.drop 1 := ⟨_, rfl⟩
  obtain ⟨D, hD⟩ : ∃ D, D = chosenD s d φ n := ⟨_, rfl⟩
  rw [← hS] at HOR HSZ ⊢
  rw [← hD] at HTOA ⊢
  have HZ : Hid (z = (n : Int)) := hzn
  clear hzn hS hD hV ho hz hm i1 i2 g1 g2 hsl hs hz3 hn3 HTOY HRW HML HD3
  generalize rowN s = L at *
  generalize s.getD 0 0 = N at *
  generalize hN : n * L = m at *
  have HN : Hid (n * L = m) := hN
  clear hN
  generalize hTO : chosenTo s d φ n = TO at *
  clear hTO
  go_enter Try.func122, Try.ntmps122
  go_wp2_with fail
  refine (HOR.out _ (bAlloc (bAlloc (Below.refl _ _) _) _)).mono ?_
  rintro r w1 ⟨a1, c1, rfl, hp, hb⟩
  have HB1 : Hid (Below w.heap.size w w1) := bTrans (bAlloc (bAlloc (Below.refl _ _) _) _) hb
  have X1 : Hid (Box w1 w.heap.size (.slice (some ⟨ab, ao, none⟩) s.length c) (.slice b d.length e) 26) := ((box_new w _ _ _).keep (bAlloc (Below.refl _ _) _)).keep hb
  have R1 : Hid (Box w1 (w.heap.size + 1) (.slice none 0 0) (.slice none 0 0) 26) := (box_new2 w _ _ _ _).keep hb
  have P1 : Hid (Piece (w.heap.size + 2) w1.heap.size w1 (.slice a1 S.length c1) S) := by show Piece _ _ _ _ _; simpa using hp
  have I1 : Hid (Ints w1 a1 S) := by
    obtain ⟨q1, q2, q3, q4⟩ := hp.ints
    cases q3
    exact q4
  have LT : Hid (w.heap.size + 2 ≤ w1.heap.size) := by have := hb.size; show _ ≤ _; simpa using this
  clear hp hb
  go_wp2_with fail
  refine (HSZ.out _ _ _ I1.out).mono ?_
  rintro r w2 ⟨rfl, hb⟩
  have HB2 : Hid (Below w.heap.size w w2) := bTrans HB1.out hb
  have X2 : Hid (Box w2 w.heap.size (.slice (some ⟨ab, ao, none⟩) s.length c) (.slice b d.length e) 26) := X1.out.keep hb
  have R2 : Hid (Box w2 (w.heap.size + 1) (.slice none 0 0) (.slice none 0 0) 26) := R1.out.keep hb
  have P2 : Hid (Piece (w.heap.size + 2) w1.heap.size w2 (.slice a1 S.length c1) S) := P1.out.keep hb
  have LT2 : Hid (w1.heap.size ≤ w2.heap.size) := hb.size
  clear hb X1 R1 P1 I1 HB1 HOR HSZ
  go_wp2
  generalize hW : w2.alloc (.cells (vals (List.replicate m 0)) 3) = W
  have HBW : Hid (Below w2.heap.size w2 W) := by rw [← hW]; exact bAlloc (Below.refl _ _) _
  have HOW : Hid (OwnInts W w2.heap.size (TO 0)) := by rw [← hW, HTO0.out]; exact ownInts_new _ _
  clear hW hmk
  go_loopw [20] (fun i w' => ∃ k : Nat, k ≤ n ∧ i = .int .i64 (k : Int) ∧ OwnInts w' w2.heap.size (TO k) ∧ Below w2.heap.size w2 w') (fun i _ => n - (intOf i).toNat)
  case atStart => exact ⟨0, by omega, rfl, HOW.out, HBW.out⟩
  case round =>
    obtain ⟨k, hk, rfl, hO, hb⟩ := hrel
    have HO : Hid (OwnInts wr w2.heap.size (TO k)) := hO
    have HB : Hid (Below w2.heap.size w2 wr) := hb
    clear hO hb HOW HBW
    have hzn := HZ.out
    by_cases hlt : (k : Int) < z
    · have HLT : Hid (k < n) := by show _ < _; omega
      have hq := HQ.out (by omega)
      have hn0 : z ≠ 0 := by omega
      have HVK : Hid (Calls Try.prog f #[.int .i64 (k : Int), p, q] wr fun r W' => r = .returned (.int .i64 (φ k)) ∧ Below wr.heap.size wr W') := HV.out wr k HLT.out (bTrans HB2.out HB.out)
      have TN : Hid (¬ (0 ≤ φ k ∧ φ k < N) → TO k = TO (k + 1)) := HTON.out k HLT.out
      clear hzn
      have hwL := HWL.out (Nat.lt_of_le_of_lt (Nat.zero_le _) HLT.out)
      have hz3 : z ≤ 300 := by have := HZ.out; have := HM.out; omega
      have HCK := HCY.out k w2.heap.size (φ k)
      generalize φ k = j at *
      by_cases hj : 0 ≤ j
      · by_cases hj2 : j < N
        · have HCP : Hid (∀ W, OwnInts W w2.heap.size (TO k) → Ints W b d → (Builtin.copy_ #[24, 24] 3 #[.slice (if m - k * L = 0 then some ⟨w2.heap.size, 0, none⟩ else (some (⟨w2.heap.size, 0, none⟩ : Addr)).map (·.add (k * L * 1))) ((k + 1) * L - k * L) (m - k * L), .slice (if e - j.toNat * L = 0 then b else b.map (·.add (j.toNat * L * 1))) (d.length - j.toNat * L) (e - j.toNat * L)]).run Try.prog W = .ok (.int .i64 (L : Int)) (W.setRow w2.heap.size (vals (TO (k + 1))))) := fun W h1 h2 => HCK W HLT.out hj hj2 rfl h1 h2
          have hs1 := fun W => HSA.out k w2.heap.size W HLT.out
          have hs2 := fun W => HSB.out j W hj hj2
          obtain ⟨hk1, w1', w2'⟩ := HW.out k HLT.out
          have HZ3 : Hid (z ≤ 300 ∧ (k : Int) < z) := ⟨hz3, hlt⟩
          have HW4 : Hid (wrap64 ((k : Int) + 1) = (k : Int) + 1 ∧ wrap64 ((k : Int) * (L : Int)) = ((k * L : Nat) : Int) ∧ wrap64 (((k : Int) + 1) * (L : Int)) = (((k + 1) * L : Nat) : Int)) := ⟨hk1, w1', w2'⟩
          clear hk1 w1' w2'
          have HW3 : Hid (wrap64 (j * (L : Int)) = ((j.toNat * L : Nat) : Int)) := HWJ.out j hj hj2
          clear TN HCK HSA HSB HW HWJ HCY HTON HTOL
          generalize (if m - k * L = 0 then some ⟨w2.heap.size, 0, none⟩ else (some (⟨w2.heap.size, 0, none⟩ : Addr)).map (·.add (k * L * 1))) = A1 at *
          generalize (if e - j.toNat * L = 0 then b else b.map (·.add (j.toNat * L * 1))) = A2 at *
          generalize (k + 1) * L - k * L = n1 at *
          generalize m - k * L = n2 at *
          generalize d.length - j.toNat * L = n3 at *
          generalize e - j.toNat * L = n4 at *
          generalize (k + 1) * L = n5 at *
          generalize k * L = n6 at *
          generalize j.toNat * L = n7 at *
          go_wp2_with (go_at_fn f; refine HVK.out.mono ?_; rintro r w3 ⟨rfl, hb⟩; have HB3 : Hid (Below w2.heap.size w2 w3) := bTrans HB.out hb; have HO3 : Hid (OwnInts w3 w2.heap.size (TO k)) := (HO.out.keep5 hb); have x0 := (X2.out.keep HB3.out).c0; have x1 := (X2.out.keep HB3.out).c1; have xn := HN0.out _ (bTrans HB2.out HB3.out); have hcp := HCP.out w3.drew (HO3.out.keep5 (Below.refl w3.heap.size w3).drew) (HI2.out.keep (bTrans HB2.out HB3.out.drew)); clear hb)
          have HO4 : Hid (OwnInts (w3.drew.setRow w2.heap.size (vals (TO (k + 1)))) w2.heap.size (TO (k + 1))) := (HO3.out.keep5 (Below.refl w3.heap.size w3).drew).setRow _
          have HB4 : Hid (Below w2.heap.size w2 (w3.drew.setRow w2.heap.size (vals (TO (k + 1))))) := below_setRow HB3.out.drew (Nat.le_refl _) _
          generalize hW : w3.drew.setRow w2.heap.size (vals (TO (k + 1))) = W4 at *
          clear hW
          obtain ⟨hk1, w1', w2'⟩ := HW4.out
          have w3' := HW3.out
          clear hz3 hlt
          go_region
          obtain ⟨hz3, hlt⟩ := HZ3.out
          clear hk1 w1' w2' w3' hs1 hs2 hcp x0 x1 xn
          go_wp2
          go_roundw
          case rel => exact ⟨k + 1, HLT.out, by go_num, HO4.out, HB4.out⟩
          case measure => simp [intOf]; have := HLT.out; omega
        · have HT' : Hid (TO k = TO (k + 1)) := TN.out (fun q => hj2 q.2)
          clear TN HCK
          go_wp2_with (go_at_fn f; refine HVK.out.mono ?_; rintro r w3 ⟨rfl, hb⟩; have HB3 : Hid (Below w2.heap.size w2 w3) := bTrans HB.out hb; have HO3 : Hid (OwnInts w3 w2.heap.size (TO k)) := (HO.out.keep5 hb); have x0 := (X2.out.keep HB3.out).c0; have xn := HN0.out _ (bTrans HB2.out HB3.out); clear hb)
          go_roundw
          case rel => exact ⟨k + 1, HLT.out, by go_num, by rw [← HT'.out]; exact HO3.out, HB3.out⟩
          case measure => simp [intOf]; have := HLT.out; omega
      · have HT' : Hid (TO k = TO (k + 1)) := TN.out (fun q => hj q.1)
        clear TN HCK
        go_wp2_with (go_at_fn f; refine HVK.out.mono ?_; rintro r w3 ⟨rfl, hb⟩; have HB3 : Hid (Below w2.heap.size w2 w3) := bTrans HB.out hb; have HO3 : Hid (OwnInts w3 w2.heap.size (TO k)) := (HO.out.keep5 hb); clear hb)
        go_roundw
        case rel => exact ⟨k + 1, HLT.out, by go_num, by rw [← HT'.out]; exact HO3.out, HB3.out⟩
        case measure => simp [intOf]; have := HLT.out; omega
    · obtain rfl : k = n := by omega
      clear hzn
      have LD : Hid (D.length = m) := by show _ = _; rw [← HTOA.out]; exact HTOL.out k (Nat.le_refl _)
      have R3 : Hid (Box wr (w.heap.size + 1) (.slice none 0 0) (.slice none 0 0) 26) := R2.out.keep HB.out
      have P3 : Hid (Piece (w.heap.size + 2) w1.heap.size wr (.slice a1 S.length c1) S) := P2.out.keep HB.out
      have PD : Hid (Piece w2.heap.size (w2.heap.size + 1) wr (.slice (some ⟨w2.heap.size, 0, none⟩) m m) D) := by
        have q := OwnInts.piece HO.out (B := w2.heap.size) (C := w2.heap.size + 1) (Nat.le_refl _) (by omega) m (by rw [HTOL.out k (Nat.le_refl _)]; exact Nat.le_refl _)
        rw [HTOL.out k (Nat.le_refl _), HTOA.out] at q
        exact q
      have LW : Hid (w2.heap.size + 1 ≤ wr.heap.size) := lt_of_heapA HO.out
      have HB5 : Hid (Below w.heap.size w wr) := bTrans HB2.out HB.out
      have y0 := R3.out.c0
      have y1 := R3.out.c1
      have f0 : wr.frozen? ⟨w.heap.size + 1, 0, none⟩ = false := free_at R3.out 0
      have f1 : wr.frozen? ⟨w.heap.size + 1, 1, none⟩ = false := free_at R3.out 1
      have HR : Hid (((wr.setCell ⟨w.heap.size + 1, 0, none⟩ (.slice a1 S.length c1)).setCell ⟨w.heap.size + 1, 1, none⟩ (.slice (some ⟨w2.heap.size, 0, none⟩) m m)).heap[w.heap.size + 1]? = some (.cells #[.slice a1 S.length c1, .slice (some ⟨w2.heap.size, 0, none⟩) m m] 26 (0, 0))) := arr_stored R3.out
      go_wp2
      refine bodyPost_ret (v := .agg #[.slice a1 S.length c1, .slice (some ⟨w2.heap.size, 0, none⟩) m m]) (results_arr rfl _ _ (w.heap.size + 1) _ _ rfl HR.out) rfl ?_
      refine ⟨_, rfl, ?_, below_setCell (below_setCell HB5.out (by omega) _ _) (by omega) _ _⟩
      have L1 := LT.out
      have L2 := LT2.out
      have L3 := LW.out
      have p1' := (P3.out.win (win_setCell wr (w.heap.size + 1) 0 (.slice a1 S.length c1)) (.inr (by omega))).win (win_setCell _ (w.heap.size + 1) 1 (.slice (some ⟨w2.heap.size, 0, none⟩) m m)) (.inr (by omega))
      have p2' := (PD.out.win (win_setCell wr (w.heap.size + 1) 0 (.slice a1 S.length c1)) (.inr (by omega))).win (win_setCell _ (w.heap.size + 1) 1 (.slice (some ⟨w2.heap.size, 0, none⟩) m m)) (.inr (by omega))
      exact ⟨_, _, rfl, p1'.mono (by omega) (by simp only [size_setCell]; omega), p2'.mono (by omega) (by simp only [size_setCell]; omega), p1'.apart p2' (.inl (by omega))⟩
end Go.Proofs.Ytcpgdhffemecbab
namespace Go.Proofs.Ytcpgdhffemecbab
set_option linter.unusedVariables false
/-- How often row i is told. -/
def often (d : List Int) (i : Nat) : Int := d.getD (i % d.length) 0
def tot (d : List Int) : Nat → Int
  | 0 => 0
  | n + 1 => tot d n + often d n
def copyC (s d t e : List Int) : Int := if arrOk s d = true ∧ arrOk t e = true then (if 1 < s.length ∨ t = [] then 4 else if d.length ≠ 1 ∧ (d.length : Int) ≠ t.getD 0 0 then 3 else if d.any (fun x => decide (x < 0)) = true then 2 else if sizeV (tot d (rowsN t) :: t.drop 1) < 0 then 6 else 0) else 1
/-- The rows of the first numbers, each as often as told. -/
def toldTo (d : List Int) (f : Nat → List Int) : Nat → List Int
  | 0 => []
  | n + 1 => toldTo d f n ++ (List.replicate (often d n).toNat (f n)).flatten
def copyD (d t e : List Int) : List Int := toldTo d (fun i => rowAt t e i) (rowsN t)
def copyR (s d t e : List Int) : Int × List Int × List Int := mkR (copyC s d t e) (tot d (rowsN t) :: t.drop 1) (copyD d t e)
theorem copyR_bad {s d t e : List Int} (h : ¬ (arrOk s d = true ∧ arrOk t e = true)) : copyR s d t e = (1, [], []) := by
  unfold copyR; rw [show copyC s d t e = 1 from by unfold copyC; rw [if_neg h]]; rfl
theorem copyR_told {s d t e : List Int} (h1 : arrOk s d = true) (h2 : arrOk t e = true) :
    copyR s d t e = if 1 < s.length ∨ t = [] then (4, [], []) else if d.length ≠ 1 ∧ (d.length : Int) ≠ t.getD 0 0 then (3, [], []) else if d.any (fun x => decide (x < 0)) = true then (2, [], []) else if sizeV (tot d (rowsN t) :: t.drop 1) < 0 then (6, [], []) else (0, tot d (rowsN t) :: t.drop 1, copyD d t e) := by
  unfold copyR copyC
  rw [if_pos ⟨h1, h2⟩]
  split
  · rfl
  · split
    · rfl
    · split
      · rfl
      · split <;> rfl
theorem often_bd {s d : List Int} (ho : arrOk s d = true) (hn : ∀ j, j < d.length → 0 ≤ d.getD j 0) (i : Nat) : 0 ≤ often d i ∧ often d i ≤ 1000000000000 := by
  unfold often
  by_cases h : i % d.length < d.length
  · have hk : ok (d.getD (i % d.length) 0) = true := by
      unfold arrOk at ho
      rw [Bool.and_eq_true, List.all_eq_true] at ho
      exact ho.2 _ (by simp [h])
    exact ⟨hn _ h, (ok_bd hk).2⟩
  · have e : d.getD (i % d.length) 0 = 0 := by simp [List.getD, List.getElem?_eq_none (show d.length ≤ i % d.length by omega)]
    rw [e]
    omega
theorem tot_bd {s d : List Int} (ho : arrOk s d = true) (hn : ∀ j, j < d.length → 0 ≤ d.getD j 0) (i : Nat) : 0 ≤ tot d i ∧ tot d i ≤ i * 1000000000000 := by
  induction i with
  | zero => exact ⟨Int.le_refl _, by simp [tot]⟩
  | succ i ih =>
    have := often_bd ho hn i
    unfold tot
    push_cast
    omega
theorem tot_mono {s d : List Int} (ho : arrOk s d = true) (hn : ∀ j, j < d.length → 0 ≤ d.getD j 0) {i n : Nat} (h : i ≤ n) : tot d i ≤ tot d n := by
  induction n with
  | zero => obtain rfl : i = 0 := by omega
            exact Int.le_refl _
  | succ n ih =>
    by_cases e : i = n + 1
    · subst e; exact Int.le_refl _
    · have := ih (by omega)
      have := often_bd ho hn n
      show tot d i ≤ tot d n + often d n
      omega
theorem told_len {s d : List Int} (ho : arrOk s d = true) (hn : ∀ j, j < d.length → 0 ≤ d.getD j 0) (f : Nat → List Int) (m : Nat) (hf : ∀ i, (f i).length ≤ m) (i : Nat) : ((toldTo d f i).length : Int) ≤ tot d i * m := by
  induction i with
  | zero => simp [toldTo, tot]
  | succ i ih =>
    have hb := often_bd ho hn i
    unfold toldTo tot
    rw [List.length_append, Int.add_mul]
    have e : ((List.replicate (often d i).toNat (f i)).flatten.length : Int) = often d i * ((f i).length : Int) := by
      rw [List.length_flatten]
      simp
      rw [Int.max_eq_left hb.1]
    have h2 : often d i * ((f i).length : Int) ≤ often d i * (m : Int) := Int.mul_le_mul_of_nonneg_left (by have := hf i; omega) hb.1
    push_cast
    omega
theorem told_ext {d : List Int} {f g : Nat → List Int} {n : Nat} (h : ∀ i, i < n → f i = g i) : toldTo d f n = toldTo d g n := by
  induction n with
  | zero => rfl
  | succ n ih =>
    unfold toldTo
    rw [ih (fun i hi => h i (by omega)), h n (by omega)]
theorem big_shape {x : Int} {u : List Int} (h : 300 < x) : sizeV (x :: u) < 0 := by
  unfold sizeV
  split
  · decide
  · rw [if_neg (by simp [dimOk]; omega)]; decide
end Go.Proofs.Ytcpgdhffemecbab
namespace Go.Proofs.Ytcpgdhffemecbab
set_option linter.unusedVariables false
def sumL (l : List Int) : Nat → Int
  | 0 => 0
  | n + 1 => sumL l n + l.getD n 0
/-- Each place of a list as often as its number tells. -/
def toldP (l : List Int) : Nat → List Int
  | 0 => []
  | n + 1 => toldP l n ++ List.replicate (l.getD n 0).toNat (n : Int)
theorem again_often {d : List Int} {n i : Nat} (h : i < n) : (againD d n).getD i 0 = often d i := by
  unfold againD often
  by_cases e : d = []
  · simp [e, h]
  · simp [e, h]
theorem again_len (d : List Int) (n : Nat) : (againD d n).length = n := by simp [againD]
theorem sumL_tot {d : List Int} {n : Nat} : ∀ {k : Nat}, k ≤ n → sumL (againD d n) k = tot d k := by
  intro k
  induction k with
  | zero => intro _; rfl
  | succ k ih =>
    intro h
    show sumL (againD d n) k + (againD d n).getD k 0 = tot d k + often d k
    rw [ih (by omega), again_often (by omega)]
theorem told_rows {d : List Int} {n : Nat} (g : Nat → List Int) : ∀ {k : Nat}, k ≤ n → (toldP (againD d n) k).flatMap (fun x => g x.toNat) = toldTo d g k := by
  intro k
  induction k with
  | zero => intro _; rfl
  | succ k ih =>
    intro h
    show (toldP (againD d n) k ++ List.replicate ((againD d n).getD k 0).toNat (k : Int)).flatMap _ = toldTo d g k ++ (List.replicate (often d k).toNat (g k)).flatten
    rw [List.flatMap_append, ih (by omega), again_often (by omega)]
    congr 1
    rw [List.flatMap_def, List.map_replicate]
    rfl
theorem toldP_len {l : List Int} (h : ∀ j, j < l.length → 0 ≤ l.getD j 0) : ∀ {k : Nat}, k ≤ l.length → ((toldP l k).length : Int) = sumL l k := by
  intro k
  induction k with
  | zero => intro _; rfl
  | succ k ih =>
    intro hk
    show (((toldP l k) ++ List.replicate (l.getD k 0).toNat (k : Int)).length : Int) = sumL l k + l.getD k 0
    rw [List.length_append, List.length_replicate]
    have := h k (by omega)
    have := ih (by omega)
    push_cast
    omega
theorem toldP_mem {l : List Int} : ∀ {k : Nat} {x : Int}, x ∈ toldP l k → 0 ≤ x ∧ x < k := by
  intro k
  induction k with
  | zero => intro x h; cases h
  | succ k ih =>
    intro x h
    have h' : x ∈ toldP l k ++ List.replicate (l.getD k 0).toNat (k : Int) := h
    rw [List.mem_append] at h'
    rcases h' with h' | h'
    · have := ih h'; omega
    · have := List.eq_of_mem_replicate h'; omega
theorem range_getD (P : List Int) (g : Int → List Int) : (List.range P.length).flatMap (fun i => g (P.getD i 0)) = P.flatMap g := by
  rw [List.flatMap_def, List.flatMap_def]
  congr 1
  apply List.ext_getElem
  · simp
  · intro i h1 h2
    simp at h1
    simp [h1]
theorem flatMap_mem {P : List Int} {g h : Int → List Int} (q : ∀ x, x ∈ P → g x = h x) : P.flatMap g = P.flatMap h := by
  rw [List.flatMap_def, List.flatMap_def, List.map_congr_left q]
/-- The rows that are chosen by what is told are what Copy answers. -/
theorem copy_chosen {d t e : List Int} (h2 : arrOk t e = true) : chosenD t e (fun k => (toldP (againD d (rowsN t)) (rowsN t)).getD k 0) (toldP (againD d (rowsN t)) (rowsN t)).length = copyD d t e := by
  obtain ⟨e1, e2⟩ := rowsN5 h2
  unfold chosenD copyD
  rw [range_getD _ (fun x => chosenRow t e x), ← told_rows (n := rowsN t) (fun i => rowAt t e i) (Nat.le_refl _)]
  refine flatMap_mem (fun x hx => ?_)
  have := toldP_mem hx
  unfold chosenRow
  rw [if_pos ⟨by omega, by omega⟩]
theorem any_below {d : List Int} : d.any (fun x => decide (x < 0)) = false ↔ ∀ j, j < d.length → 0 ≤ d.getD j 0 := by
  constructor
  · intro h j hj
    rw [List.any_eq_false] at h
    have := h (d.getD j 0) (by simp [hj])
    simpa using this
  · intro h
    rw [List.any_eq_false]
    intro y hy
    obtain ⟨j, hj, rfl⟩ := List.getElem_of_mem hy
    have := h j hj
    rw [List.getD_eq_getElem?_getD, List.getElem?_eq_getElem hj] at this
    simpa using this
theorem copyC_zero {s d t e : List Int} (h : copyC s d t e = 0) : arrOk s d = true ∧ arrOk t e = true ∧ t ≠ [] ∧ (∀ j, j < d.length → 0 ≤ d.getD j 0) ∧ 0 ≤ sizeV (tot d (rowsN t) :: t.drop 1) := by
  unfold copyC at h
  by_cases q : arrOk s d = true ∧ arrOk t e = true
  · rw [if_pos q] at h
    by_cases q2 : 1 < s.length ∨ t = []
    · rw [if_pos q2] at h; cases h
    · rw [if_neg q2] at h
      by_cases q3 : d.length ≠ 1 ∧ (d.length : Int) ≠ t.getD 0 0
      · rw [if_pos q3] at h; cases h
      · rw [if_neg q3] at h
        by_cases q4 : d.any (fun x => decide (x < 0)) = true
        · rw [if_pos q4] at h; cases h
        · rw [if_neg q4] at h
          by_cases q5 : sizeV (tot d (rowsN t) :: t.drop 1) < 0
          · rw [if_pos q5] at h; cases h
          · exact ⟨q.1, q.2, fun k => q2 (.inr k), any_below.1 (by simpa using q4), by omega⟩
  · rw [if_neg q] at h; cases h
theorem copy_len {s d t e : List Int} (h : copyC s d t e = 0) : (tot d (rowsN t) :: t.drop 1).length ≤ 1048576 ∧ (copyD d t e).length ≤ 1048576 := by
  obtain ⟨h1, h2, h3, h4, h5⟩ := copyC_zero h
  have e2 := arrOk_len h2
  have e3 := (sizeV_ok h5).1
  have e4 := dim5 h5
  constructor
  · omega
  · have := told_len h1 h4 (fun i => rowAt t e i) 300 (fun i => by unfold rowAt; rw [List.length_take, List.length_drop]; omega) (rowsN t)
    have h6 : tot d (rowsN t) * ((300 : Nat) : Int) ≤ 300 * 300 := Int.mul_le_mul_of_nonneg_right e4.2 (by decide)
    unfold copyD
    omega
end Go.Proofs.Ytcpgdhffemecbab
namespace Go.Proofs.Ytcpgdhffemecbab
open Go.RowKit
set_option linter.unusedVariables false
set_option linter.unusedSimpArgs false
theorem sumL_bd {l : List Int} (h : ∀ j, j < l.length → 0 ≤ l.getD j 0 ∧ l.getD j 0 ≤ 1000000000000) : ∀ {k : Nat}, k ≤ l.length → 0 ≤ sumL l k ∧ sumL l k ≤ k * 1000000000000 := by
  intro k
  induction k with
  | zero => intro _; exact ⟨Int.le_refl _, by simp [sumL]⟩
  | succ k ih =>
    intro hk
    have h1 := h k (by omega)
    have h2 := ih (by omega)
    show 0 ≤ sumL l k + l.getD k 0 ∧ sumL l k + l.getD k 0 ≤ _
    push_cast
    omega
/-- A list of no number, with room. -/
theorem make0_ints (n : Nat) (hn : n ≤ 1073741824) (w : World) :
    ∃ w', (Instr.makeSlice 24 (.int .i64 0) (.int .i64 (n : Int))).run Try.prog w = .ok (.slice (some ⟨w.heap.size, 0, none⟩) 0 n) w' ∧ NewInts w.heap.size w' (.slice (some ⟨w.heap.size, 0, none⟩) 0 n) [] ∧ Below w.heap.size w w' := by
  have hi := info_int
  cases hq : Try.prog.info? 3 with
  | none => rw [hq] at hi; cases hi
  | some i =>
    rw [hq] at hi
    simp at hi
    obtain ⟨z1, z2, z3⟩ := hi
    have := run_make (P := Try.prog) w 24 3 i (.int .i64 0) Try.underlying24 hq z1 .i64 .i64 0 n (by omega) (by omega) (by rw [z3]; omega) (by omega)
    rw [z2, Int.toNat_natCast, Nat.mul_one] at this
    refine ⟨_, this, ⟨rfl, .inr ⟨w.heap.size, n, _, rfl, Nat.le_refl _, heap_alloc_new w _, Nat.zero_le _, by unfold maxLen; omega, ?_, by simp⟩⟩, bAlloc (Below.refl _ _) _⟩
    rw [made_zero]
    simp [vals]
end Go.Proofs.Ytcpgdhffemecbab
namespace Go.Proofs.Ytcpgdhffemecbab
open Go.RowKit
end Go.Proofs.Ytcpgdhffemecbab
namespace Go.Proofs.Ytcpgdhffemecbab
open Go.RowKit
theorem ret_int {k : IntKind} {a b : Int} (h : a = b) : Ending.returned (.int k a) = .returned (.int k b) := by rw [h]
theorem ret_two {a b c d : Int} (h : a = b) (h' : c = d) : Ending.returned (.tuple #[.int .i64 a, .int .i64 c]) = .returned (.tuple #[.int .i64 b, .int .i64 d]) := by rw [h, h']

set_option maxHeartbeats 400000 in
theorem roundedDown_impl (a b : Int) (hb : b ≠ 0) (a1 : -1000000000000 ≤ a) (a2 : a ≤ 1000000000000) (b1 : -1000000000000 ≤ b) (b2 : b ≤ 1000000000000) (w : World) :
    Calls Try.prog 129 #[.int .i64 a, .int .i64 b] w fun e w' => e = .returned (.int .i64 (flo a b)) ∧ w' = w := by
  have ht := tdiv_bd (b := b) a1 a2
  have _ := b1
  have _ := b2
  have hg := flo_go a b hb
  have HG : Hid (flo a b = if a.tmod b ≠ 0 ∧ (decide (a < 0) != decide (b < 0)) = true then a.tdiv b - 1 else a.tdiv b) := hg
  clear hg
  obtain ⟨t1, t2⟩ := ht
  go_enter Try.func129, Try.ntmps129
  go_wp2
  all_goals
    go_ret
    refine ⟨ret_int ?_, rfl⟩
    rw [HG.out]
    simp_all [bne]
set_option maxHeartbeats 400000 in
theorem digits_impl (x : Int) (h1 : -1000000000000 ≤ x) (h2 : x ≤ 1000000000000) (w : World) :
    Calls Try.prog 128 #[.int .i64 x] w fun e w' => e = .returned (.int .i64 (bits x.natAbs)) ∧ w' = w := by
  have hm := mag_bd h1 h2
  go_enter Try.func128, Try.ntmps128
  go_wp2_with (go_at_call 137; refine (withoutSign_impl _ h1 h2 _).mono ?_; rintro e w' ⟨rfl, rfl⟩)
  go_loop [3, 4] (fun n r => ∃ (k m : Nat), k + bits m = bits x.natAbs ∧ m ≤ 1000000000000 ∧ n = .int .i64 k ∧ r = .int .i64 m) (fun _ r => (intOf r).toNat)
  case atStart => exact ⟨0, x.natAbs, by omega, by omega, rfl, by rw [mag_abs]⟩
  case round =>
    obtain ⟨k, m, hk, hmm, rfl, rfl⟩ := hrel
    have hs := bits_small hmm
    have hx := bits_small (show x.natAbs ≤ 1000000000000 by omega)
    by_cases hp : 0 < m
    · have hb := bits_pos hp
      have HB : Hid (bits m = bits (m / 2) + 1) := hb
      have HK : Hid (k + bits m = bits x.natAbs) := hk
      have hkb : k ≤ 40 := by omega
      clear hb hk
      go_wp2
      go_round
      case rel => exact ⟨k + 1, m / 2, by have := HB.out; have := HK.out; omega, by omega, by go_num, by go_num⟩
      case measure => simp [intOf]; omega
    · obtain rfl : m = 0 := by omega
      go_wp2
      go_ret
      exact ⟨ret_int (by rw [bits_zero] at hk; omega), rfl⟩
theorem digits_top (w : World) : Calls Try.prog 128 #[.int .i64 1000000000000] w fun e w' => e = .returned (.int .i64 40) ∧ w' = w := by
  refine (digits_impl 1000000000000 (by decide) (by decide) w).mono ?_
  rintro e w' ⟨rfl, rfl⟩
  refine ⟨ret_int ?_, rfl⟩
  have : (1000000000000 : Int).natAbs = 1000000000000 := rfl
  rw [this, bits_top]; rfl
set_option maxHeartbeats 400000 in
theorem oneIf_impl (b : Bool) (w : World) : Calls Try.prog 130 #[.bool b] w fun e w' => e = .returned (.int .i64 (bit b)) ∧ w' = w := by
  cases b <;> (go_enter Try.func130, Try.ntmps130; go_wp2; go_ret; exact ⟨rfl, rfl⟩)
set_option maxHeartbeats 400000 in
theorem rol_impl (x : Int) (w : World) : Calls Try.prog 81 #[.int .i64 x, .int .i64 0] w fun e w' => e = .returned (.tuple #[.int .i64 (limV x), .int .i64 (limC x)]) ∧ w' = w := by
  by_cases h : ok x = true
  · go_enter Try.func81, Try.ntmps81
    go_wp2_with (go_at_call 79; refine (numOk_impl _ _).mono ?_; rintro e w' ⟨rfl, rfl⟩)
    go_ret2
    exact ⟨ret_two (lim_yes h).1.symm (lim_yes h).2.symm, rfl⟩
  · have h : ok x = false := by simpa using h
    go_enter Try.func81, Try.ntmps81
    go_wp2_with (go_at_call 79; refine (numOk_impl _ _).mono ?_; rintro e w' ⟨rfl, rfl⟩)
    go_ret2
    exact ⟨ret_two (lim_no h).1.symm (lim_no h).2.symm, rfl⟩
set_option maxHeartbeats 400000 in
theorem rol_code (x c : Int) (hc : (c == 0) = false) (w : World) : Calls Try.prog 81 #[.int .i64 x, .int .i64 c] w fun e w' => e = .returned (.tuple #[.int .i64 0, .int .i64 c]) ∧ w' = w := by
  go_enter Try.func81, Try.ntmps81
  go_wp2
  go_ret2
  exact ⟨rfl, rfl⟩
set_option maxHeartbeats 400000 in
theorem sum_impl (a b : Int) (a1 : -1000000000000 ≤ a) (a2 : a ≤ 1000000000000) (b1 : -1000000000000 ≤ b) (b2 : b ≤ 1000000000000) (w : World) : Calls Try.prog 106 #[.int .i64 a, .int .i64 b] w fun e w' => e = .returned (.tuple #[.int .i64 (a + b), .int .i64 0]) ∧ w' = w := by
  go_enter Try.func106, Try.ntmps106
  go_wp2
  go_ret2
  exact ⟨rfl, rfl⟩
set_option maxHeartbeats 400000 in
theorem difference_impl (a b : Int) (a1 : -1000000000000 ≤ a) (a2 : a ≤ 1000000000000) (b1 : -1000000000000 ≤ b) (b2 : b ≤ 1000000000000) (w : World) : Calls Try.prog 107 #[.int .i64 a, .int .i64 b] w fun e w' => e = .returned (.tuple #[.int .i64 (a - b), .int .i64 0]) ∧ w' = w := by
  go_enter Try.func107, Try.ntmps107
  go_wp2
  go_ret2
  exact ⟨rfl, rfl⟩
set_option maxHeartbeats 400000 in
theorem isEqual_impl (a b : Int) (w : World) : Calls Try.prog 113 #[.int .i64 a, .int .i64 b] w fun e w' => e = .returned (.tuple #[.int .i64 (bit (a == b)), .int .i64 0]) ∧ w' = w := by
  go_enter Try.func113, Try.ntmps113
  go_wp2_with (go_at_call 130; refine (oneIf_impl _ _).mono ?_; rintro e w' ⟨rfl, rfl⟩)
  go_ret2
  exact ⟨rfl, rfl⟩
set_option maxHeartbeats 400000 in
theorem isBelow_impl (a b : Int) (w : World) : Calls Try.prog 114 #[.int .i64 a, .int .i64 b] w fun e w' => e = .returned (.tuple #[.int .i64 (bit (decide (a < b))), .int .i64 0]) ∧ w' = w := by
  go_enter Try.func114, Try.ntmps114
  go_wp2_with (go_at_call 130; refine (oneIf_impl _ _).mono ?_; rintro e w' ⟨rfl, rfl⟩)
  go_ret2
  exact ⟨rfl, rfl⟩
set_option maxHeartbeats 400000 in
theorem isAbove_impl (a b : Int) (w : World) : Calls Try.prog 115 #[.int .i64 a, .int .i64 b] w fun e w' => e = .returned (.tuple #[.int .i64 (bit (decide (b < a))), .int .i64 0]) ∧ w' = w := by
  go_enter Try.func115, Try.ntmps115
  go_wp2_with (go_at_call 130; refine (oneIf_impl _ _).mono ?_; rintro e w' ⟨rfl, rfl⟩)
  go_ret2
  exact ⟨rfl, rfl⟩
set_option maxHeartbeats 400000 in
theorem lesser_impl (a b : Int) (w : World) : Calls Try.prog 111 #[.int .i64 a, .int .i64 b] w fun e w' => e = .returned (.tuple #[.int .i64 (mn a b), .int .i64 0]) ∧ w' = w := by
  go_enter Try.func111, Try.ntmps111
  go_wp2
  all_goals
    go_ret2
    exact ⟨ret_two (by unfold mn; split <;> omega) rfl, rfl⟩
set_option maxHeartbeats 400000 in
theorem greater_impl (a b : Int) (w : World) : Calls Try.prog 112 #[.int .i64 a, .int .i64 b] w fun e w' => e = .returned (.tuple #[.int .i64 (mx a b), .int .i64 0]) ∧ w' = w := by
  go_enter Try.func112, Try.ntmps112
  go_wp2
  all_goals
    go_ret2
    exact ⟨ret_two (by unfold mx; split <;> omega) rfl, rfl⟩
set_option maxHeartbeats 400000 in
theorem quotient_impl0 (a : Int) (w : World) : Calls Try.prog 109 #[.int .i64 a, .int .i64 0] w fun e w' => e = .returned (.tuple #[.int .i64 0, .int .i64 2]) ∧ w' = w := by
  go_enter Try.func109, Try.ntmps109
  go_wp2
  go_ret2
  exact ⟨rfl, rfl⟩
set_option maxHeartbeats 400000 in
theorem quotient_impl (a b : Int) (hb : b ≠ 0) (a1 : -1000000000000 ≤ a) (a2 : a ≤ 1000000000000) (b1 : -1000000000000 ≤ b) (b2 : b ≤ 1000000000000) (w : World) : Calls Try.prog 109 #[.int .i64 a, .int .i64 b] w fun e w' => e = .returned (.tuple #[.int .i64 (flo a b), .int .i64 0]) ∧ w' = w := by
  have hb' : (b == 0) = false := by simpa using hb
  go_enter Try.func109, Try.ntmps109
  go_wp2_with (go_at_call 129; refine (roundedDown_impl _ _ hb a1 a2 b1 b2 _).mono ?_; rintro e w' ⟨rfl, rfl⟩)
  go_ret2
  exact ⟨rfl, rfl⟩
set_option maxHeartbeats 400000 in
theorem remainder_impl0 (b : Int) (w : World) : Calls Try.prog 110 #[.int .i64 0, .int .i64 b] w fun e w' => e = .returned (.tuple #[.int .i64 b, .int .i64 0]) ∧ w' = w := by
  go_enter Try.func110, Try.ntmps110
  go_wp2
  go_ret2
  exact ⟨rfl, rfl⟩
set_option maxHeartbeats 400000 in
theorem remainder_impl (a b : Int) (ha : a ≠ 0) (a1 : -1000000000000 ≤ a) (a2 : a ≤ 1000000000000) (b1 : -1000000000000 ≤ b) (b2 : b ≤ 1000000000000) (w : World) : Calls Try.prog 110 #[.int .i64 a, .int .i64 b] w fun e w' => e = .returned (.tuple #[.int .i64 (rst b a), .int .i64 0]) ∧ w' = w := by
  have ha' : (a == 0) = false := by simpa using ha
  have he : Hid (b - a * flo b a = rst b a) := rst_eq b a
  have hr := rst_bd (a := b) ha a1 a2
  have p1 : -2000000000000 ≤ a * flo b a := by have := he.out; omega
  have p2 : a * flo b a ≤ 2000000000000 := by have := he.out; omega
  clear hr
  go_enter Try.func110, Try.ntmps110
  go_wp2_with (go_at_call 129; refine (roundedDown_impl _ _ ha b1 b2 a1 a2 _).mono ?_; rintro e w' ⟨rfl, rfl⟩)
  go_ret2
  exact ⟨ret_two he.out rfl, rfl⟩
set_option maxHeartbeats 400000 in
theorem product_impl1 (a b : Int) (a1 : -1000000000000 ≤ a) (a2 : a ≤ 1000000000000) (b1 : -1000000000000 ≤ b) (b2 : b ≤ 1000000000000) (h : 41 < bits a.natAbs + bits b.natAbs) (w : World) : Calls Try.prog 108 #[.int .i64 a, .int .i64 b] w fun e w' => e = .returned (.tuple #[.int .i64 0, .int .i64 6]) ∧ w' = w := by
  have A1 := bits_small (show a.natAbs ≤ 1000000000000 by omega)
  have A2 := bits_small (show b.natAbs ≤ 1000000000000 by omega)
  have h' : (40 : Int) < (bits a.natAbs : Int) + (bits b.natAbs : Int) - 1 := by omega
  go_enter Try.func108, Try.ntmps108
  go_wp2_with fail
  refine (digits_impl a a1 a2 _).mono ?_
  rintro e w' ⟨rfl, rfl⟩
  go_wp2_with fail
  refine (digits_impl b b1 b2 _).mono ?_
  rintro e w' ⟨rfl, rfl⟩
  go_wp2_with fail
  refine (digits_top _).mono ?_
  rintro e w' ⟨rfl, rfl⟩
  go_wp2
  go_ret2
  exact ⟨rfl, rfl⟩
set_option maxHeartbeats 400000 in
theorem product_impl2 (a b : Int) (a1 : -1000000000000 ≤ a) (a2 : a ≤ 1000000000000) (b1 : -1000000000000 ≤ b) (b2 : b ≤ 1000000000000) (h : bits a.natAbs + bits b.natAbs ≤ 41) (w : World) : Calls Try.prog 108 #[.int .i64 a, .int .i64 b] w fun e w' => e = .returned (.tuple #[.int .i64 (a * b), .int .i64 0]) ∧ w' = w := by
  have A1 := bits_small (show a.natAbs ≤ 1000000000000 by omega)
  have A2 := bits_small (show b.natAbs ≤ 1000000000000 by omega)
  have h' : ¬ (40 : Int) < (bits a.natAbs : Int) + (bits b.natAbs : Int) - 1 := by omega
  obtain ⟨p1, p2⟩ := prod_small h
  go_enter Try.func108, Try.ntmps108
  go_wp2_with fail
  refine (digits_impl a a1 a2 _).mono ?_
  rintro e w' ⟨rfl, rfl⟩
  go_wp2_with fail
  refine (digits_impl b b1 b2 _).mono ?_
  rintro e w' ⟨rfl, rfl⟩
  go_wp2_with fail
  refine (digits_top _).mono ?_
  rintro e w' ⟨rfl, rfl⟩
  go_wp2
  go_ret2
  exact ⟨rfl, rfl⟩

def cellsTwo : Array Value := #[.int .i64 43, .func (.func 106) #[] #[], .int .i64 45, .func (.func 107) #[] #[], .int .i64 42, .func (.func 108) #[] #[], .int .i64 37, .func (.func 109) #[] #[], .int .i64 124, .func (.func 110) #[] #[], .int .i64 38, .func (.func 111) #[] #[], .int .i64 94, .func (.func 112) #[] #[], .int .i64 61, .func (.func 113) #[] #[], .int .i64 60, .func (.func 114) #[] #[], .int .i64 62, .func (.func 115) #[] #[]]
def zerosTwo : Array Value := #[.int .i64 0, .nilFunc, .int .i64 0, .nilFunc, .int .i64 0, .nilFunc, .int .i64 0, .nilFunc, .int .i64 0, .nilFunc, .int .i64 0, .nilFunc, .int .i64 0, .nilFunc, .int .i64 0, .nilFunc, .int .i64 0, .nilFunc, .int .i64 0, .nilFunc]
def rulesTwo : Value := .agg cellsTwo
theorem cellsTwo_one : cellsTwo.all (·.oneCell') = true := by kernel_rfl
theorem modify_push {α : Type} (xs : Array α) (o p : α) (f : α → α) (hf : f o = p) : (xs.push o).modify xs.size f = xs.push p := by
  apply Array.ext
  · simp
  · intro i h1 h2
    rw [Array.getElem_modify]
    simp only [Array.getElem_push]
    by_cases e : i < xs.size
    · simp [e, show ¬ xs.size = i by omega]
    · have : xs.size = i := by simp at h2; omega
      simp [this, hf]
theorem setRow_alloc (w : World) (old cs : Array Value) (t : TypeId) : (w.alloc (.cells old t)).setRow w.heap.size cs = w.alloc (.cells cs t) := by
  unfold World.setRow
  rw [show (w.alloc (.cells old t)).heap = w.heap.push (.cells old t) from rfl, modify_push _ _ (.cells cs t) _ rfl]
  rfl
set_option maxHeartbeats 400000 in
theorem twoRules_impl (w : World) : Calls Try.prog 80 #[] w fun e w' => e = .returned rulesTwo ∧ ∃ c : Array Value, w' = w.alloc (.cells c 96) := by
  have hg : (w.alloc (.cells zerosTwo 96)).heap[w.heap.size]? = some (.cells zerosTwo 96 (0, 0)) := heap_alloc_new w _
  go_enter Try.func80, Try.ntmps80
  go_wp2_with (refine wpList_store_row rfl 96 _ _ rfl w.heap.size cellsTwo rfl rfl 96 zerosTwo hg (by kernel_rfl) rfl cellsTwo_one ?_)
  refine bodyPost_ret (v := rulesTwo) ?_ rfl ⟨rfl, cellsTwo, setRow_alloc _ _ _ _⟩
  exact results_cell_row Try.results80 _ _ w.heap.size 96 cellsTwo (0, 0) _ rfl (setRow_heap _ _ zerosTwo _ _ _ hg) Try.underlying96 rfl (by kernel_rfl)
theorem ixTwo0 (w : World) : (Instr.index 96 rulesTwo (.int .i64 0)).run Try.prog w = .ok (.agg #[.int .i64 43, .func (.func 106) #[] #[]]) w := by kernel_rfl
theorem ixTwo1 (w : World) : (Instr.index 96 rulesTwo (.int .i64 1)).run Try.prog w = .ok (.agg #[.int .i64 45, .func (.func 107) #[] #[]]) w := by kernel_rfl
theorem ixTwo2 (w : World) : (Instr.index 96 rulesTwo (.int .i64 2)).run Try.prog w = .ok (.agg #[.int .i64 42, .func (.func 108) #[] #[]]) w := by kernel_rfl
theorem ixTwo3 (w : World) : (Instr.index 96 rulesTwo (.int .i64 3)).run Try.prog w = .ok (.agg #[.int .i64 37, .func (.func 109) #[] #[]]) w := by kernel_rfl
theorem ixTwo4 (w : World) : (Instr.index 96 rulesTwo (.int .i64 4)).run Try.prog w = .ok (.agg #[.int .i64 124, .func (.func 110) #[] #[]]) w := by kernel_rfl
theorem ixTwo5 (w : World) : (Instr.index 96 rulesTwo (.int .i64 5)).run Try.prog w = .ok (.agg #[.int .i64 38, .func (.func 111) #[] #[]]) w := by kernel_rfl
theorem ixTwo6 (w : World) : (Instr.index 96 rulesTwo (.int .i64 6)).run Try.prog w = .ok (.agg #[.int .i64 94, .func (.func 112) #[] #[]]) w := by kernel_rfl
theorem ixTwo7 (w : World) : (Instr.index 96 rulesTwo (.int .i64 7)).run Try.prog w = .ok (.agg #[.int .i64 61, .func (.func 113) #[] #[]]) w := by kernel_rfl
theorem ixTwo8 (w : World) : (Instr.index 96 rulesTwo (.int .i64 8)).run Try.prog w = .ok (.agg #[.int .i64 60, .func (.func 114) #[] #[]]) w := by kernel_rfl
theorem ixTwo9 (w : World) : (Instr.index 96 rulesTwo (.int .i64 9)).run Try.prog w = .ok (.agg #[.int .i64 62, .func (.func 115) #[] #[]]) w := by kernel_rfl
end Go.Proofs.Ytcpgdhffemecbab
namespace Go.Proofs.Ytcpgdhffemecbab
open Go.RowKit
/-- The signs, by their places in the program's own table. -/
def sg (k : Nat) : Int := [43, 45, 42, 37, 124, 38, 94, 61, 60, 62].getD k 0
theorem sg_none {s : Int} (h : ∀ j, j < 10 → sg j ≠ s) : sign2 s = false := by
  have h0 := h 0 (by omega); have h1 := h 1 (by omega); have h2 := h 2 (by omega); have h3 := h 3 (by omega); have h4 := h 4 (by omega)
  have h5 := h 5 (by omega); have h6 := h 6 (by omega); have h7 := h 7 (by omega); have h8 := h 8 (by omega); have h9 := h 9 (by omega)
  simp [sg] at h0 h1 h2 h3 h4 h5 h6 h7 h8 h9
  simp [sign2]; omega
theorem sg_next {s : Int} {k : Nat} (h : ∀ j, j < k → sg j ≠ s) (hk : sg k ≠ s) : ∀ j, j < k + 1 → sg j ≠ s := by
  intro j hj
  by_cases e : j = k
  · subst e; exact hk
  · exact h j (by omega)
set_option maxHeartbeats 4000000 in
theorem two_right (s a b : Int) (a1 : -1000000000000 ≤ a) (a2 : a ≤ 1000000000000) (b1 : -1000000000000 ≤ b) (b2 : b ≤ 1000000000000) (w : World) :
    Calls Try.prog 39 #[.int .i64 s, .int .i64 a, .int .i64 b] w fun e w' => e = .returned (.tuple #[.int .i64 (twoV s a b).1, .int .i64 (twoV s a b).2]) ∧ Below w.heap.size w w' := by
  have ka := ok_mk a1 a2
  have kb := ok_mk b1 b2
  go_enter Try.func39, Try.ntmps39
  go_wp2_with (first | (go_at_call 79; refine (numOk_impl _ _).mono ?_; rintro e w' ⟨rfl, hw⟩; subst w') | (go_at_call 80; refine (twoRules_impl _).mono ?_; rintro e w' ⟨rfl, c, rfl⟩))
  go_loopw [21] (fun i w' => ∃ k : Nat, k ≤ 10 ∧ i = .int .i64 k ∧ (∀ j, j < k → sg j ≠ s) ∧ Below w.heap.size w w') (fun i _ => 10 - (intOf i).toNat)
  case atStart => exact ⟨0, by omega, rfl, by omega, bAlloc (Below.refl _ _) _⟩
  case round =>
    obtain ⟨k, hk, rfl, hs, hG⟩ := hrel
    have HS : Hid (∀ j, j < k → sg j ≠ s) := hs
    clear hs
    have hk11 : k = 0 ∨ k = 1 ∨ k = 2 ∨ k = 3 ∨ k = 4 ∨ k = 5 ∨ k = 6 ∨ k = 7 ∨ k = 8 ∨ k = 9 ∨ k = 10 := by omega
    rcases hk11 with rfl | rfl | rfl | rfl | rfl | rfl | rfl | rfl | rfl | rfl | rfl
    · have ik := ixTwo0
      by_cases e : s = 43
      · subst e
        go_wp2_with (first | (go_at_call 106; refine (sum_impl _ _ a1 a2 b1 b2 _).mono ?_; rintro e w' ⟨rfl, hw⟩; subst w') | (go_at_call 81; refine (rol_impl _ _).mono ?_; rintro e w' ⟨rfl, hw⟩; subst w'))
        go_ret2
        exact ⟨ret_two (by rw [twoV_43 ka kb]) (by rw [twoV_43 ka kb]), by repeat (first | exact hG | apply bAlloc)⟩
      · have en : ((43 : Int) == s) = false := by simp; omega
        clear e
        go_wp2
        go_roundw
        case rel => exact ⟨1, by omega, rfl, sg_next HS.out (by simp at en; simpa [sg] using en), by repeat (first | exact hG | apply bAlloc)⟩
        case measure => simp [intOf]
    · have ik := ixTwo1
      by_cases e : s = 45
      · subst e
        go_wp2_with (first | (go_at_call 107; refine (difference_impl _ _ a1 a2 b1 b2 _).mono ?_; rintro e w' ⟨rfl, hw⟩; subst w') | (go_at_call 81; refine (rol_impl _ _).mono ?_; rintro e w' ⟨rfl, hw⟩; subst w'))
        go_ret2
        exact ⟨ret_two (by rw [twoV_45 ka kb]) (by rw [twoV_45 ka kb]), by repeat (first | exact hG | apply bAlloc)⟩
      · have en : ((45 : Int) == s) = false := by simp; omega
        clear e
        go_wp2
        go_roundw
        case rel => exact ⟨2, by omega, rfl, sg_next HS.out (by simp at en; simpa [sg] using en), by repeat (first | exact hG | apply bAlloc)⟩
        case measure => simp [intOf]
    · have ik := ixTwo2
      by_cases e : s = 42
      · subst e
        by_cases p : bits a.natAbs + bits b.natAbs ≤ 41
        · go_wp2_with (first | (go_at_call 108; refine (product_impl2 _ _ a1 a2 b1 b2 p _).mono ?_; rintro e w' ⟨rfl, hw⟩; subst w') | (go_at_call 81; refine (rol_impl _ _).mono ?_; rintro e w' ⟨rfl, hw⟩; subst w'))
          go_ret2
          exact ⟨ret_two (by rw [twoV_42 ka kb]) (by rw [twoV_42 ka kb]), by repeat (first | exact hG | apply bAlloc)⟩
        · have hno := lim_no (prod_big (a := a) (b := b) (by omega) (by omega) (by omega))
          go_wp2_with (first | (go_at_call 108; refine (product_impl1 _ _ a1 a2 b1 b2 (by omega) _).mono ?_; rintro e w' ⟨rfl, hw⟩; subst w') | (go_at_call 81; refine (rol_code _ _ (by decide) _).mono ?_; rintro e w' ⟨rfl, hw⟩; subst w'))
          go_ret2
          exact ⟨ret_two (by rw [twoV_42 ka kb]; exact hno.1.symm) (by rw [twoV_42 ka kb]; exact hno.2.symm), by repeat (first | exact hG | apply bAlloc)⟩
      · have en : ((42 : Int) == s) = false := by simp; omega
        clear e
        go_wp2
        go_roundw
        case rel => exact ⟨3, by omega, rfl, sg_next HS.out (by simp at en; simpa [sg] using en), by repeat (first | exact hG | apply bAlloc)⟩
        case measure => simp [intOf]
    · have ik := ixTwo3
      by_cases e : s = 37
      · subst e
        by_cases p : b = 0
        · have PB : Hid (twoV 37 a b = (0, 2)) := twoV_37n ka kb p
          subst p
          go_wp2_with (first | (go_at_call 109; refine (quotient_impl0 _ _).mono ?_; rintro e w' ⟨rfl, hw⟩; subst w') | (go_at_call 81; refine (rol_code _ _ (by decide) _).mono ?_; rintro e w' ⟨rfl, hw⟩; subst w'))
          go_ret2
          exact ⟨ret_two (by rw [PB.out]) (by rw [PB.out]), by repeat (first | exact hG | apply bAlloc)⟩
        · go_wp2_with (first | (go_at_call 109; refine (quotient_impl _ _ p a1 a2 b1 b2 _).mono ?_; rintro e w' ⟨rfl, hw⟩; subst w') | (go_at_call 81; refine (rol_impl _ _).mono ?_; rintro e w' ⟨rfl, hw⟩; subst w'))
          go_ret2
          exact ⟨ret_two (by rw [twoV_37 ka kb p]) (by rw [twoV_37 ka kb p]), by repeat (first | exact hG | apply bAlloc)⟩
      · have en : ((37 : Int) == s) = false := by simp; omega
        clear e
        go_wp2
        go_roundw
        case rel => exact ⟨4, by omega, rfl, sg_next HS.out (by simp at en; simpa [sg] using en), by repeat (first | exact hG | apply bAlloc)⟩
        case measure => simp [intOf]
    · have ik := ixTwo4
      by_cases e : s = 124
      · subst e
        by_cases p : a = 0
        · subst p
          go_wp2_with (first | (go_at_call 110; refine (remainder_impl0 _ _).mono ?_; rintro e w' ⟨rfl, hw⟩; subst w') | (go_at_call 81; refine (rol_impl _ _).mono ?_; rintro e w' ⟨rfl, hw⟩; subst w'))
          go_ret2
          exact ⟨ret_two (by rw [twoV_124 ka kb, if_pos rfl]) (by rw [twoV_124 ka kb, if_pos rfl]), by repeat (first | exact hG | apply bAlloc)⟩
        · go_wp2_with (first | (go_at_call 110; refine (remainder_impl _ _ p a1 a2 b1 b2 _).mono ?_; rintro e w' ⟨rfl, hw⟩; subst w') | (go_at_call 81; refine (rol_impl _ _).mono ?_; rintro e w' ⟨rfl, hw⟩; subst w'))
          go_ret2
          exact ⟨ret_two (by rw [twoV_124 ka kb, if_neg p]) (by rw [twoV_124 ka kb, if_neg p]), by repeat (first | exact hG | apply bAlloc)⟩
      · have en : ((124 : Int) == s) = false := by simp; omega
        clear e
        go_wp2
        go_roundw
        case rel => exact ⟨5, by omega, rfl, sg_next HS.out (by simp at en; simpa [sg] using en), by repeat (first | exact hG | apply bAlloc)⟩
        case measure => simp [intOf]
    · have ik := ixTwo5
      by_cases e : s = 38
      · subst e
        go_wp2_with (first | (go_at_call 111; refine (lesser_impl _ _ _).mono ?_; rintro e w' ⟨rfl, hw⟩; subst w') | (go_at_call 81; refine (rol_impl _ _).mono ?_; rintro e w' ⟨rfl, hw⟩; subst w'))
        go_ret2
        exact ⟨ret_two (by rw [twoV_38 ka kb]) (by rw [twoV_38 ka kb]), by repeat (first | exact hG | apply bAlloc)⟩
      · have en : ((38 : Int) == s) = false := by simp; omega
        clear e
        go_wp2
        go_roundw
        case rel => exact ⟨6, by omega, rfl, sg_next HS.out (by simp at en; simpa [sg] using en), by repeat (first | exact hG | apply bAlloc)⟩
        case measure => simp [intOf]
    · have ik := ixTwo6
      by_cases e : s = 94
      · subst e
        go_wp2_with (first | (go_at_call 112; refine (greater_impl _ _ _).mono ?_; rintro e w' ⟨rfl, hw⟩; subst w') | (go_at_call 81; refine (rol_impl _ _).mono ?_; rintro e w' ⟨rfl, hw⟩; subst w'))
        go_ret2
        exact ⟨ret_two (by rw [twoV_94 ka kb]) (by rw [twoV_94 ka kb]), by repeat (first | exact hG | apply bAlloc)⟩
      · have en : ((94 : Int) == s) = false := by simp; omega
        clear e
        go_wp2
        go_roundw
        case rel => exact ⟨7, by omega, rfl, sg_next HS.out (by simp at en; simpa [sg] using en), by repeat (first | exact hG | apply bAlloc)⟩
        case measure => simp [intOf]
    · have ik := ixTwo7
      by_cases e : s = 61
      · subst e
        go_wp2_with (first | (go_at_call 113; refine (isEqual_impl _ _ _).mono ?_; rintro e w' ⟨rfl, hw⟩; subst w') | (go_at_call 81; refine (rol_impl _ _).mono ?_; rintro e w' ⟨rfl, hw⟩; subst w'))
        go_ret2
        exact ⟨ret_two (by rw [twoV_61 ka kb]) (by rw [twoV_61 ka kb]), by repeat (first | exact hG | apply bAlloc)⟩
      · have en : ((61 : Int) == s) = false := by simp; omega
        clear e
        go_wp2
        go_roundw
        case rel => exact ⟨8, by omega, rfl, sg_next HS.out (by simp at en; simpa [sg] using en), by repeat (first | exact hG | apply bAlloc)⟩
        case measure => simp [intOf]
    · have ik := ixTwo8
      by_cases e : s = 60
      · subst e
        go_wp2_with (first | (go_at_call 114; refine (isBelow_impl _ _ _).mono ?_; rintro e w' ⟨rfl, hw⟩; subst w') | (go_at_call 81; refine (rol_impl _ _).mono ?_; rintro e w' ⟨rfl, hw⟩; subst w'))
        go_ret2
        exact ⟨ret_two (by rw [twoV_60 ka kb]) (by rw [twoV_60 ka kb]), by repeat (first | exact hG | apply bAlloc)⟩
      · have en : ((60 : Int) == s) = false := by simp; omega
        clear e
        go_wp2
        go_roundw
        case rel => exact ⟨9, by omega, rfl, sg_next HS.out (by simp at en; simpa [sg] using en), by repeat (first | exact hG | apply bAlloc)⟩
        case measure => simp [intOf]
    · have ik := ixTwo9
      by_cases e : s = 62
      · subst e
        go_wp2_with (first | (go_at_call 115; refine (isAbove_impl _ _ _).mono ?_; rintro e w' ⟨rfl, hw⟩; subst w') | (go_at_call 81; refine (rol_impl _ _).mono ?_; rintro e w' ⟨rfl, hw⟩; subst w'))
        go_ret2
        exact ⟨ret_two (by rw [twoV_62 ka kb]) (by rw [twoV_62 ka kb]), by repeat (first | exact hG | apply bAlloc)⟩
      · have en : ((62 : Int) == s) = false := by simp; omega
        clear e
        go_wp2
        go_roundw
        case rel => exact ⟨10, by omega, rfl, sg_next HS.out (by simp at en; simpa [sg] using en), by repeat (first | exact hG | apply bAlloc)⟩
        case measure => simp [intOf]
    · go_wp2
      go_ret2
      exact ⟨ret_two (by rw [twoV_none (sg_none HS.out)]) (by rw [twoV_none (sg_none HS.out)]), hG⟩
set_option maxHeartbeats 1000000 in
theorem two_implBad (s a b : Int) (h : ok a = false ∨ ok b = false) (w : World) :
    Calls Try.prog 39 #[.int .i64 s, .int .i64 a, .int .i64 b] w fun e w' => e = .returned (.tuple #[.int .i64 0, .int .i64 1]) ∧ Below w.heap.size w w' := by
  by_cases ha : ok a = true
  · have hb : ok b = false := by simpa [ha] using h
    clear h
    go_enter Try.func39, Try.ntmps39
    go_wp2_with (go_at_call 79; refine (numOk_impl _ _).mono ?_; rintro e w' ⟨rfl, hw⟩; subst w')
    go_ret2
    exact ⟨rfl, Below.refl _ _⟩
  · have ha : ok a = false := by simpa using ha
    clear h
    go_enter Try.func39, Try.ntmps39
    go_wp2_with (go_at_call 79; refine (numOk_impl _ _).mono ?_; rintro e w' ⟨rfl, hw⟩; subst w')
    go_ret2
    exact ⟨rfl, Below.refl _ _⟩
/-- The program's Two, whatever it is given. -/
theorem two_impl (s a b : Int) (w : World) :
    Calls Try.prog 39 #[.int .i64 s, .int .i64 a, .int .i64 b] w fun e w' => e = .returned (.tuple #[.int .i64 (twoV s a b).1, .int .i64 (twoV s a b).2]) ∧ Below w.heap.size w w' := by
  by_cases ha : ok a = true
  · by_cases hb : ok b = true
    · obtain ⟨a1, a2⟩ := ok_bd ha
      obtain ⟨b1, b2⟩ := ok_bd hb
      exact two_right s a b a1 a2 b1 b2 w
    · have hb : ok b = false := by simpa using hb
      rw [twoV_bad (.inr hb)]; exact two_implBad s a b (.inr hb) w
  · have ha : ok a = false := by simpa using ha
    rw [twoV_bad (.inl ha)]; exact two_implBad s a b (.inl ha) w
end Go.Proofs.Ytcpgdhffemecbab
namespace Go.Proofs.Ytcpgdhffemecbab
open Go.RowKit
set_option linter.unusedVariables false
set_option linter.unusedSimpArgs false
set_option maxRecDepth 20000 in
set_option maxHeartbeats 1000000 in
/-- numberFor. -/
theorem numberFor_impl {s d : List Int} {w : World} {v : Value} (i : Nat) (h : ArrI w v s d) (h0 : s = [] → 0 < d.length) (h1 : s ≠ [] → i < d.length) (hd : d.length ≤ 1048576) :
    Calls Try.prog 116 #[v, .int .i64 (i : Int)] w fun r w' => r = .returned (.int .i64 (numOf s d i)) ∧ Below w.heap.size w w' := by
  obtain ⟨a, c, b, f, rfl, i1, i2, _, _⟩ := h
  by_cases e : s = []
  · subst e
    have E : Hid (numOf [] d i = d.getD 0 0) := by show _ = _; unfold numOf; rw [if_pos rfl]
    obtain ⟨b1, o1, rfl, hb1, c1⟩ := i2.at (h0 rfl)
    rw [Nat.add_zero] at c1
    have c2 : ∀ O : Obj, (w.alloc O).cell? ⟨b1, o1, none⟩ = some (.int .i64 (d.getD 0 0)) := fun O => ((bAlloc (Below.refl _ _) O).cell (p := ⟨b1, o1, none⟩) hb1).trans c1
    have hl : (0 : Int) < (d.length : Int) := by have := h0 rfl; omega
    generalize d.getD 0 0 = x at *
    clear i1 i2 h0 h1 c1
    go_enter Try.func116, Try.ntmps116
    go_wp2
    go_ret
    exact ⟨by rw [E.out]; rfl, bAlloc (Below.refl _ _) _⟩
  · have E : Hid (numOf s d i = d.getD i 0) := by show _ = _; unfold numOf; rw [if_neg e]
    obtain ⟨b1, o1, rfl, hb1, c1⟩ := i2.at (h1 e)
    have c2 : ∀ O : Obj, (w.alloc O).cell? ⟨b1, o1 + i, none⟩ = some (.int .i64 (d.getD i 0)) := fun O => ((bAlloc (Below.refl _ _) O).cell (p := ⟨b1, o1 + i, none⟩) hb1).trans c1
    have hl : (i : Int) < (d.length : Int) := by have := h1 e; omega
    have n1 : ((s.length : Int) == 0) = false := by
      have := List.length_pos_iff.2 e
      simp; omega
    generalize d.getD i 0 = x at *
    clear i1 i2 h0 h1 c1 e
    go_enter Try.func116, Try.ntmps116
    go_wp2
    go_ret
    exact ⟨by rw [E.out]; rfl, bAlloc (Below.refl _ _) _⟩
theorem known1 (g : Int) : ((oneV g 0).2 != 1) = sign1 g := by
  by_cases h : sign1 g = true
  · rcases sign1_of h with rfl | rfl | rfl | rfl | rfl <;> decide
  · have h : sign1 g = false := by simpa using h
    rw [oneV_none h, h]; rfl
theorem known2 (g : Int) : ((twoV g 0 0).2 != 1) = sign2 g := by
  by_cases h : sign2 g = true
  · rcases sign2_of h with rfl | rfl | rfl | rfl | rfl | rfl | rfl | rfl | rfl | rfl <;> decide
  · have h : sign2 g = false := by simpa using h
    rw [twoV_none h, h]; rfl
set_option maxHeartbeats 1000000 in
/-- knownToTwo. -/
theorem knownTwo_impl (g : Int) (w : World) :
    Calls Try.prog 30 #[.int .i64 g] w fun r w' => r = .returned (.bool (sign2 g)) ∧ Below w.heap.size w w' := by
  have K : Hid (((twoV g 0 0).2 != 1) = sign2 g) := known2 g
  have HV : Hid (∀ W, Calls Try.prog 39 #[.int .i64 g, .int .i64 0, .int .i64 0] W fun e w' => e = .returned (.tuple #[.int .i64 (twoV g 0 0).1, .int .i64 (twoV g 0 0).2]) ∧ Below W.heap.size W w') := fun W => two_impl g 0 0 W
  generalize (twoV g 0 0).1 = x at *
  generalize (twoV g 0 0).2 = y at *
  go_enter Try.func30, Try.ntmps30
  go_wp2_with fail
  refine (HV.out _).mono ?_
  rintro r w1 ⟨rfl, hb⟩
  have HB : Hid (Below w.heap.size w w1) := hb
  clear hb
  go_wp2
  go_ret
  exact ⟨by rw [← K.out]; rfl, HB.out⟩
set_option maxRecDepth 20000 in
set_option maxHeartbeats 1000000 in
/-- What EachTwo does at a place. -/
theorem does2_impl {g x y : Int} {w : World} {a : Option Addr} {q c : Nat} (h : Ints w a [x, y]) (hq : w.cell? ⟨q, 0, none⟩ = some (.int .i64 g)) :
    Calls Try.prog 38 #[.slice a 2 c, .pointer (some ⟨q, 0, none⟩)] w fun r w' => r = .returned (.tuple #[.int .i64 (twoV g x y).1, .int .i64 (twoV g x y).2]) ∧ Below w.heap.size w w' := by
  obtain ⟨b1, o1, rfl, hb1, c1⟩ := h.at (k := 0) (by simp)
  obtain ⟨b2, o2, e2, _, c2⟩ := h.at (k := 1) (by simp)
  cases e2
  have x0 : w.cell? ⟨b1, o1, none⟩ = some (.int .i64 x) := by simpa using c1
  have x1 : w.cell? ⟨b1, o1 + 1, none⟩ = some (.int .i64 y) := by simpa using c2
  have HV : Hid (∀ W, Calls Try.prog 39 #[.int .i64 g, .int .i64 x, .int .i64 y] W fun e w' => e = .returned (.tuple #[.int .i64 (twoV g x y).1, .int .i64 (twoV g x y).2]) ∧ Below W.heap.size W w') := fun W => two_impl g x y W
  clear c1 c2 h
  generalize (twoV g x y).1 = u at *
  generalize (twoV g x y).2 = z at *
  go_enter Try.func38, Try.ntmps38
  go_wp2
  first
    | go_region_with (go_at_call 39; refine (HV.out _).mono ?_; rintro r w1 ⟨rfl, hb⟩; have HB1 : Hid (Below w.heap.size w w1) := bTrans ((Below.refl w.heap.size w).drew) hb; clear hb)
    | fail "no"
  all_goals
    go_wp2
    go_ret2
    exact ⟨rfl, HB1.out⟩
end Go.Proofs.Ytcpgdhffemecbab
namespace Go.Proofs.Ytcpgdhffemecbab
open Go.RowKit
set_option linter.unusedVariables false
set_option linter.unusedSimpArgs false
theorem piece_setN {B C g c k n : Nat} {w : World} {l : List Int} (h : Piece B C w (.slice (some ⟨g, 0, none⟩) n c) l) (hl : l.length = n) (hk : k < n) (x : Int) : Piece B C (w.setCell ⟨g, k, none⟩ (.int .i64 x)) (.slice (some ⟨g, 0, none⟩) n c) (l.set k x) := by
  subst hl
  have := h.set hk x
  simpa using this
/-- What stands while eachPlace goes on: what was there, the list that is made, the numbers of a place. -/
structure PlaceAt (w wr : World) (n m : Nat) (l x : List Int) : Prop where
  below : Below w.heap.size w wr
  list : Piece w.heap.size (w.heap.size + 1) wr (.slice (some ⟨w.heap.size, 0, none⟩) n n) l
  nums : Piece (w.heap.size + 1) (w.heap.size + 2) wr (.slice (some ⟨w.heap.size + 1, 0, none⟩) m m) x
  size : w.heap.size + 2 ≤ wr.heap.size
  llen : l.length = n
  xlen : x.length = m
theorem PlaceAt.keep {w wr w' : World} {n m : Nat} {l x : List Int} (h : PlaceAt w wr n m l x) (hb : Below wr.heap.size wr w') : PlaceAt w w' n m l x :=
  ⟨h.below.trans (hb.mono h.below.size), h.list.keep hb, h.nums.keep hb, Nat.le_trans h.size hb.size, h.llen, h.xlen⟩
theorem PlaceAt.setX {w wr : World} {n m j : Nat} {l x : List Int} (h : PlaceAt w wr n m l x) (hj : j < m) (z : Int) : PlaceAt w (wr.setCell ⟨w.heap.size + 1, j, none⟩ (.int .i64 z)) n m l (x.set j z) :=
  ⟨below_setCell h.below (by omega) _ _, h.list.win (win_setCell _ _ _ _) (.inl (Nat.le_refl _)), piece_setN h.nums h.xlen hj z, by rw [size_setCell]; exact h.size, h.llen, by rw [List.length_set]; exact h.xlen⟩
theorem PlaceAt.setL {w wr : World} {n m j : Nat} {l x : List Int} (h : PlaceAt w wr n m l x) (hj : j < n) (z : Int) : PlaceAt w (wr.setCell ⟨w.heap.size, j, none⟩ (.int .i64 z)) n m (l.set j z) x :=
  ⟨below_setCell h.below (Nat.le_refl _) _ _, piece_setN h.list h.llen hj z, h.nums.win (win_setCell _ _ _ _) (.inr (Nat.le_refl _)), by rw [size_setCell]; exact h.size, by rw [List.length_set]; exact h.llen, h.xlen⟩
theorem PlaceAt.start (w : World) (n m : Nat) : PlaceAt w ((w.alloc (.cells (vals (List.replicate n 0)) 3)).alloc (.cells (vals (List.replicate m 0)) 3)) n m (List.replicate n 0) (List.replicate m 0) := by
  have p1 : Piece w.heap.size (w.heap.size + 1) (w.alloc (.cells (vals (List.replicate n 0)) 3)) (.slice (some ⟨w.heap.size, 0, none⟩) n n) (List.replicate n 0) := by
    have := OwnInts.piece (ownInts_new w (List.replicate n 0)) (B := w.heap.size) (C := w.heap.size + 1) (Nat.le_refl _) (Nat.lt_succ_self _) n
    simpa using this
  have p2 : Piece (w.heap.size + 1) (w.heap.size + 2) ((w.alloc (.cells (vals (List.replicate n 0)) 3)).alloc (.cells (vals (List.replicate m 0)) 3)) (.slice (some ⟨w.heap.size + 1, 0, none⟩) m m) (List.replicate m 0) := by
    have := OwnInts.piece (ownInts_new (w.alloc (.cells (vals (List.replicate n 0)) 3)) (List.replicate m 0)) (B := w.heap.size + 1) (C := w.heap.size + 2) (by simp) (by simp) m
    simpa using this
  exact ⟨bAlloc (bAlloc (Below.refl _ _) _) _, p1.keep (bAlloc (Below.refl _ _) _), p2, by simp, by simp, by simp⟩
/-- The numbers of a place. -/
def numsAt (F : List (List Int)) (m k : Nat) : List Int := (List.range m).map fun i => numOf (F.getD (2 * i) []) (F.getD (2 * i + 1) []) k
theorem numsAt_set {F : List (List Int)} {m k j : Nat} {x : List Int} (hx : ∀ q, q < j → x.getD q 0 = numOf (F.getD (2 * q) []) (F.getD (2 * q + 1) []) k) (hj : j < x.length) : ∀ q, q < j + 1 → (x.set j (numOf (F.getD (2 * j) []) (F.getD (2 * j + 1) []) k)).getD q 0 = numOf (F.getD (2 * q) []) (F.getD (2 * q + 1) []) k := by
  intro q hq
  by_cases e : q = j
  · subst e; simp [hj]
  · have := hx q (by omega)
    simp only [List.getD_eq_getElem?_getD] at this ⊢
    rw [List.getElem?_set_ne (by omega)]
    exact this
theorem numsAt_eq {F : List (List Int)} {m k : Nat} {x : List Int} (hl : x.length = m) (hx : ∀ q, q < m → x.getD q 0 = numOf (F.getD (2 * q) []) (F.getD (2 * q + 1) []) k) : x = numsAt F m k := by
  apply List.ext_getElem
  · simp [numsAt, hl]
  · intro q h1 h2
    have := hx q (by omega)
    simp only [numsAt, List.getElem_map, List.getElem_range]
    rw [← this]
    simp [h1]
/-- What eachPlace answers. -/
def placesC (V : Nat → Int × Int) (n : Nat) : Int := firstC (fun i => (V i).2) n
def placesD (V : Nat → Int × Int) (n : Nat) : List Int := if placesC V n = 0 then (List.range n).map (fun i => (V i).1) else []
set_option maxRecDepth 20000 in
set_option maxHeartbeats 4000000 in
/-- eachPlace. -/
theorem eachPlace_impl {F : List (List Int)} {V : Nat → Int × Int} {w : World} {f n m ca : Nat} {aa : Option Addr} {p : Value}
    (hE : ∀ (args : Array Value) (w : World), (callFunc f args).run Try.prog w = .ok (.enter f args) w) (hA : ArrsI w (.slice aa m ca) F) (hm : m ≤ 2) (hn : n ≤ 300) (hL : ∀ j, (F.getD j []).length ≤ 1048576)
    (hN : ∀ i, i < m → (F.getD (2 * i) [] = [] → 0 < (F.getD (2 * i + 1) []).length) ∧ (F.getD (2 * i) [] ≠ [] → n ≤ (F.getD (2 * i + 1) []).length))
    (hV : ∀ (W : World) (A k : Nat), k < n → Below w.heap.size w W → Ints W (some ⟨A, 0, none⟩) (numsAt F m k) → Calls Try.prog f #[.slice (some ⟨A, 0, none⟩) m m, p] W fun r W' => r = .returned (.tuple #[.int .i64 (V k).1, .int .i64 (V k).2]) ∧ Below W.heap.size W W') :
    Calls Try.prog 82 #[.int .i64 (n : Int), .func (.func f) #[] #[p], .slice aa m ca] w fun r w' => ∃ a' c', r = .returned (.tuple #[.slice a' (placesD V n).length c', .int .i64 (placesC V n)]) ∧ Piece w.heap.size w'.heap.size w' (.slice a' (placesD V n).length c') (placesD V n) ∧ Below w.heap.size w w' := by
  have HA : Hid (ArrsI w (.slice aa m ca) F) := hA
  have HL : Hid (∀ j, (F.getD j []).length ≤ 1048576) := hL
  have HN : Hid (∀ i, i < m → (F.getD (2 * i) [] = [] → 0 < (F.getD (2 * i + 1) []).length) ∧ (F.getD (2 * i) [] ≠ [] → n ≤ (F.getD (2 * i + 1) []).length)) := hN
  have HV : Hid (∀ (W : World) (A k : Nat), k < n → Below w.heap.size w W → Ints W (some ⟨A, 0, none⟩) (numsAt F m k) → Calls Try.prog f #[.slice (some ⟨A, 0, none⟩) m m, p] W fun r W' => r = .returned (.tuple #[.int .i64 (V k).1, .int .i64 (V k).2]) ∧ Below W.heap.size W W') := hV
  have hmk1 : ∀ w, (Instr.makeSlice 24 (.int .i64 (n : Int)) (.int .i64 (n : Int))).run Try.prog w = .ok (.slice (some ⟨w.heap.size, 0, none⟩) n n) (w.alloc (.cells (vals (List.replicate n 0)) 3)) := fun w => make_ints n (by omega) w
  have hmk2 : ∀ w, (Instr.makeSlice 24 (.int .i64 (m : Int)) (.int .i64 (m : Int))).run Try.prog w = .ok (.slice (some ⟨w.heap.size, 0, none⟩) m m) (w.alloc (.cells (vals (List.replicate m 0)) 3)) := fun w => make_ints m (by omega) w
  obtain ⟨C, hC⟩ : ∃ C, C = placesC V n := ⟨_, rfl⟩
  obtain ⟨D, hD⟩ : ∃ D, D = placesD V n := ⟨_, rfl⟩
  have HC : Hid (C = firstC (fun i => (V i).2) n) := hC
  have HBAD : Hid (C ≠ 0 → D = []) := fun h => by rw [hD]; unfold placesD; rw [if_neg (by rw [← hC]; exact h)]
  have HGOOD : Hid (C = 0 → D = (List.range n).map (fun i => (V i).1)) := fun h => by rw [hD]; unfold placesD; rw [if_pos (by rw [← hC]; exact h)]
  rw [← hC, ← hD]
  clear hA hL hN hV hC hD
  go_enter Try.func82, Try.ntmps82
  go_wp2
  generalize hW : (w.alloc (.cells (vals (List.replicate n 0)) 3)).alloc (.cells (vals (List.replicate m 0)) 3) = W0
  have P0 : Hid (PlaceAt w W0 n m (List.replicate n 0) (List.replicate m 0)) := by rw [← hW]; exact PlaceAt.start w n m
  clear hW hmk1 hmk2
  go_loopw [22] (fun i w' => ∃ (k : Nat) (l x : List Int), k ≤ n ∧ i = .int .i64 (k : Int) ∧ firstC (fun i => (V i).2) k = 0 ∧ l = setTo (fun i => (V i).1) (List.replicate n 0) k ∧ PlaceAt w w' n m l x) (fun i _ => n - (intOf i).toNat)
  case atStart => exact ⟨0, _, _, by omega, rfl, rfl, by rw [setTo_zero], P0.out⟩
  case round =>
    obtain ⟨k, l, x, hk, rfl, hf, hl, hP⟩ := hrel
    have HF : Hid (firstC (fun i => (V i).2) k = 0) := hf
    have HLL : Hid (l = setTo (fun i => (V i).1) (List.replicate n 0) k) := hl
    have HP : Hid (PlaceAt w wr n m l x) := hP
    clear hf hl hP P0
    by_cases hlt : (k : Int) < (n : Int)
    · go_wp2
      go_loopw [27] (fun i w' => ∃ (j : Nat) (x : List Int), j ≤ m ∧ i = .int .i64 (j : Int) ∧ (∀ q, q < j → x.getD q 0 = numOf (F.getD (2 * q) []) (F.getD (2 * q + 1) []) k) ∧ PlaceAt w w' n m l x) (fun i _ => m - (intOf i).toNat)
      case atStart => exact ⟨0, x, by omega, rfl, by intro q hq; omega, HP.out⟩
      case round =>
        obtain ⟨j, x1, hj, rfl, hx, hP⟩ := hrel
        have HX : Hid (∀ q, q < j → x1.getD q 0 = numOf (F.getD (2 * q) []) (F.getD (2 * q + 1) []) k) := hx
        have HP1 : Hid (PlaceAt w wr n m l x1) := hP
        clear hx hP HP
        by_cases hjm : (j : Int) < (m : Int)
        · obtain ⟨o, off, sx, sy, rfl, ho, p0, p1, i0, i1⟩ := (HA.out.keep HP1.out.below).at (k := j) (by omega)
          obtain ⟨ax, cx, rfl, gix, ix⟩ := i0
          obtain ⟨ay, cy, rfl, giy, iy⟩ := i1
          have A1 : Hid (ArrI wr (.agg #[.slice ax (F.getD (2 * j) []).length cx, .slice ay (F.getD (2 * j + 1) []).length cy]) (F.getD (2 * j) []) (F.getD (2 * j + 1) [])) := ⟨_, _, _, _, rfl, ix, iy, gix, giy⟩
          obtain ⟨q1, q2⟩ := HN.out j (by omega)
          have HF1 : Hid (∀ W, Below wr.heap.size wr W → Calls Try.prog 116 #[.agg #[.slice ax (F.getD (2 * j) []).length cx, .slice ay (F.getD (2 * j + 1) []).length cy], .int .i64 (k : Int)] W fun r w' => r = .returned (.int .i64 (numOf (F.getD (2 * j) []) (F.getD (2 * j + 1) []) k)) ∧ Below W.heap.size W w') := fun W h => numberFor_impl k (A1.out.keep h) q1 (fun h => Nat.lt_of_lt_of_le (by omega) (q2 h)) (HL.out _)
          have HX1 : Hid (∀ q, q < j + 1 → (x1.set j (numOf (F.getD (2 * j) []) (F.getD (2 * j + 1) []) k)).getD q 0 = numOf (F.getD (2 * q) []) (F.getD (2 * q + 1) []) k) := numsAt_set (m := m) HX.out (by rw [HP1.out.xlen]; omega)
          clear ix iy gix giy q1 q2
          generalize (F.getD (2 * j) []).length = ls at *
          generalize (F.getD (2 * j + 1) []).length = ld at *
          generalize numOf (F.getD (2 * j) []) (F.getD (2 * j + 1) []) k = z at *
          go_wp2_with fail
          refine (HF1.out _ (bAlloc (Below.refl _ _) _)).mono ?_
          rintro r w2 ⟨rfl, hb⟩
          have P2 : Hid (PlaceAt w w2 n m l x1) := HP1.out.keep (bTrans (bAlloc (Below.refl _ _) _) hb)
          obtain ⟨t1, t2, _, _, _⟩ := P2.out.nums.cellAt (k := j) (by rw [P2.out.xlen]; omega)
          rw [Nat.zero_add] at t1 t2
          clear hb
          generalize x1.getD j 0 = x2 at t1
          go_wp2
          go_roundw
          case rel => exact ⟨j + 1, _, by omega, by go_num, HX1.out, P2.out.setX (by omega) z⟩
          case measure => simp [intOf]; omega
        · obtain rfl : j = m := by omega
          have HX1 : Hid (x1 = numsAt F j k) := numsAt_eq HP1.out.xlen HX.out
          have HIN : Hid (Ints wr (some ⟨w.heap.size + 1, 0, none⟩) (numsAt F j k)) := by
            obtain ⟨a', c', e', i'⟩ := HP1.out.nums.ints
            cases e'
            rw [← HX1.out]; exact i'
          have HV1 : Hid (Calls Try.prog f #[.slice (some ⟨w.heap.size + 1, 0, none⟩) j j, p] wr fun r W' => r = .returned (.tuple #[.int .i64 (V k).1, .int .i64 (V k).2]) ∧ Below wr.heap.size wr W') := HV.out wr _ k (by omega) HP1.out.below HIN.out
          have E1 : Hid ((V k).2 = 0 → firstC (fun i => (V i).2) (k + 1) = 0) := fun h => firstC_go HF.out h
          have E2 : Hid ((V k).2 ≠ 0 → C = (V k).2) := fun h => by rw [HC.out]; exact firstC_stop HF.out h (by omega)
          have E3 : Hid (l.set k (V k).1 = setTo (fun i => (V i).1) (List.replicate n 0) (k + 1)) := by show _ = _; rw [HLL.out]; exact setTo_set (fun i => (V i).1) _ (by simp; omega)
          clear HX HX1 HIN
          generalize (V k).1 = y at *
          generalize (V k).2 = z at *
          by_cases h0 : z = 0
          · subst h0
            have E1' : Hid (firstC (fun i => (V i).2) (k + 1) = 0) := E1.out rfl
            go_wp2_with (go_at_fn f; refine HV1.out.mono ?_; rintro r w2 ⟨rfl, hb⟩; have P2 : Hid (PlaceAt w w2 n j l x1) := HP1.out.keep hb; obtain ⟨t1, t2, _, _, _⟩ := P2.out.list.cellAt (k := k) (by rw [P2.out.llen]; omega); rw [Nat.zero_add] at t1 t2; clear hb; generalize l.getD k 0 = x2 at t1)
            go_roundw
            case rel => exact ⟨k + 1, _, _, by omega, by go_num, E1'.out, E3.out, P2.out.setL (by omega) y⟩
            case measure => simp [intOf]; omega
          · have hne : (z != 0) = true := by simpa using h0
            have EC : Hid (C = z) := E2.out h0
            have ED : Hid (D = []) := HBAD.out (by rw [EC.out]; exact h0)
            clear h0
            go_wp2_with (go_at_fn f; refine HV1.out.mono ?_; rintro r w2 ⟨rfl, hb⟩; have B2 : Hid (Below w.heap.size w w2) := (HP1.out.keep hb).below; clear hb)
            go_ret2
            refine ⟨none, 0, by rw [EC.out, ED.out]; rfl, ?_, B2.out⟩
            rw [ED.out]; exact Piece.nil _ _ _
    · obtain rfl : k = n := by omega
      have EC : Hid (C = 0) := by show _ = _; rw [HC.out, HF.out]
      have ED : Hid (D = l) := by show _ = _; rw [HGOOD.out EC.out, HLL.out, setTo_all _ _ (by simp)]
      have EL : Hid (D.length = k) := by show _ = _; rw [ED.out]; exact HP.out.llen
      go_wp2
      go_ret2
      refine ⟨some ⟨w.heap.size, 0, none⟩, k, by rw [EC.out, EL.out]; rfl, ?_, HP.out.below⟩
      rw [EL.out, ED.out]
      exact HP.out.list.mono (Nat.le_refl _) (by have := HP.out.size; omega)
end Go.Proofs.Ytcpgdhffemecbab
namespace Go.Proofs.Ytcpgdhffemecbab
open Go.RowKit
set_option linter.unusedVariables false
set_option linter.unusedSimpArgs false
set_option maxRecDepth 20000 in
set_option maxHeartbeats 4000000 in
/-- filled. -/
theorem filled_impl {F : List (List Int)} {V : Nat → Int × Int} {w : World} {f n m ca B E sc : Nat} {aa sa : Option Addr} {p : Value} {S : List Int}
    (hE : ∀ (args : Array Value) (w : World), (callFunc f args).run Try.prog w = .ok (.enter f args) w) (hA : ArrsI w (.slice aa m ca) F) (hm : m ≤ 2) (hn : n ≤ 300) (hL : ∀ j, (F.getD j []).length ≤ 1048576)
    (hN : ∀ i, i < m → (F.getD (2 * i) [] = [] → 0 < (F.getD (2 * i + 1) []).length) ∧ (F.getD (2 * i) [] ≠ [] → n ≤ (F.getD (2 * i + 1) []).length))
    (hV : ∀ (W : World) (A k : Nat), k < n → Below w.heap.size w W → Ints W (some ⟨A, 0, none⟩) (numsAt F m k) → Calls Try.prog f #[.slice (some ⟨A, 0, none⟩) m m, p] W fun r W' => r = .returned (.tuple #[.int .i64 (V k).1, .int .i64 (V k).2]) ∧ Below W.heap.size W W')
    (hS : Piece B E w (.slice sa S.length sc) S) (hBE : B ≤ E) (hEw : E ≤ w.heap.size) (hz : sizeV S = (n : Int)) :
    Calls Try.prog 40 #[.slice sa S.length sc, .func (.func f) #[] #[p], .slice aa m ca] w fun r w' => ∃ v', r = .returned (.tuple #[v', .int .i64 (placesC V n)]) ∧ Arr B w'.heap.size w' v' (if placesC V n = 0 then S else []) (placesD V n) ∧ Below w.heap.size w w' := by
  have HI : Hid (Ints w sa S) := by
    obtain ⟨a', c', e', i'⟩ := hS.ints
    cases e'
    exact i'
  have HS : Hid (Piece B E w (.slice sa S.length sc) S) := hS
  have HSZ : Hid (∀ W, Ints W sa S → Calls Try.prog 76 #[.slice sa S.length sc] W fun e w' => e = .returned (.int .i64 (n : Int)) ∧ Below W.heap.size W w') := fun W h => by
    have := size_impl sc h
    rw [hz] at this
    exact this
  have HEP : Hid (∀ W, Below w.heap.size w W → Calls Try.prog 82 #[.int .i64 (n : Int), .func (.func f) #[] #[p], .slice aa m ca] W fun r w' => ∃ a' c', r = .returned (.tuple #[.slice a' (placesD V n).length c', .int .i64 (placesC V n)]) ∧ Piece W.heap.size w'.heap.size w' (.slice a' (placesD V n).length c') (placesD V n) ∧ Below W.heap.size W w') :=
    fun W h => eachPlace_impl hE (hA.keep h) hm hn hL hN (fun W' A k hk hb hi => hV W' A k hk (bTrans h hb) hi)
  have HBE : Hid (B ≤ E ∧ E ≤ w.heap.size) := ⟨hBE, hEw⟩
  have HD0 : Hid (placesC V n ≠ 0 → placesD V n = []) := fun h => by unfold placesD; rw [if_neg h]
  obtain ⟨S', hS'⟩ : ∃ S', S' = (if placesC V n = 0 then S else []) := ⟨_, rfl⟩
  have HS1 : Hid (placesC V n = 0 → S' = S) := fun h => by rw [hS', if_pos h]
  have HS2 : Hid (placesC V n ≠ 0 → S' = []) := fun h => by rw [hS', if_neg h]
  rw [← hS']
  clear hS'
  generalize placesC V n = C at *
  generalize placesD V n = D at *
  clear hE hA hm hn hL hN hV hS hBE hEw hz
  go_enter Try.func40, Try.ntmps40
  go_wp2_with fail
  refine (HSZ.out _ (HI.out.keep (bAlloc (Below.refl _ _) _))).mono ?_
  rintro r w1 ⟨rfl, hb⟩
  have HB1 : Hid (Below w.heap.size w w1) := bTrans (bAlloc (Below.refl _ _) _) hb
  have Y1 : Hid (Box w1 w.heap.size (.slice none 0 0) (.slice none 0 0) 26) := (box_new w _ _ _).keep hb
  clear hb
  go_wp2_with fail
  refine (HEP.out _ HB1.out).mono ?_
  rintro r w2 ⟨a2, c2, rfl, hp, hb⟩
  have HP2 : Hid (Piece w1.heap.size w2.heap.size w2 (.slice a2 D.length c2) D) := hp
  have HB2 : Hid (Below w.heap.size w w2) := bTrans HB1.out hb
  have Y2 : Hid (Box w2 w.heap.size (.slice none 0 0) (.slice none 0 0) 26) := Y1.out.keep hb
  have LT : Hid (w.heap.size < w1.heap.size) := Y1.out.lt
  have LT2 : Hid (w1.heap.size ≤ w2.heap.size) := hb.size
  clear hp hb Y1
  have y0 := Y2.out.c0
  have y1 := Y2.out.c1
  have f0 : w2.frozen? ⟨w.heap.size, 0, none⟩ = false := free_at Y2.out 0
  have f1 : w2.frozen? ⟨w.heap.size, 1, none⟩ = false := free_at Y2.out 1
  by_cases h0 : C = 0
  · have EC : Hid (S' = S) := HS1.out h0
    subst h0
    clear HS1 HS2 HD0
    have HR : Hid (((w2.setCell ⟨w.heap.size, 0, none⟩ (.slice sa S.length sc)).setCell ⟨w.heap.size, 1, none⟩ (.slice a2 D.length c2)).heap[w.heap.size]? = some (.cells #[.slice sa S.length sc, .slice a2 D.length c2] 26 (0, 0))) := arr_stored Y2.out
    go_wp2
    refine bodyPost_ret (results_arr_tmp Try.results40 _ _ w.heap.size _ _ rfl HR.out) rfl ?_
    refine ⟨_, rfl, ?_, below_setCell (below_setCell HB2.out (Nat.le_refl _) _ _) (Nat.le_refl _) _ _⟩
    rw [EC.out]
    have L1 := LT.out
    have L2 := LT2.out
    have L3 := HBE.out
    have p1 : Piece B E w2 (.slice sa S.length sc) S := HS.out.belowC HB2.out L3.2
    have p1' := (p1.win (win_setCell w2 w.heap.size 0 (.slice sa S.length sc)) (.inl L3.2)).win (win_setCell _ w.heap.size 1 (.slice a2 D.length c2)) (.inl L3.2)
    have p2' := (HP2.out.win (win_setCell w2 w.heap.size 0 (.slice sa S.length sc)) (.inr (by omega))).win (win_setCell _ w.heap.size 1 (.slice a2 D.length c2)) (.inr (by omega))
    exact ⟨_, _, rfl, p1'.mono (Nat.le_refl _) (by simp only [size_setCell]; omega), p2'.mono (by omega) (by simp only [size_setCell]; omega), p1'.apart p2' (.inl (by omega))⟩
  · have hne : (C != 0) = true := by simpa using h0
    have ED : Hid (D = []) := HD0.out h0
    have EC : Hid (S' = []) := HS2.out h0
    clear h0
    have HR : Hid (((w2.setCell ⟨w.heap.size, 0, none⟩ (.slice none 0 0)).setCell ⟨w.heap.size, 1, none⟩ (.slice none 0 0)).heap[w.heap.size]? = some (.cells #[.slice none 0 0, .slice none 0 0] 26 (0, 0))) := arr_stored Y2.out
    go_wp2
    refine bodyPost_ret (results_arr_tmp Try.results40 _ _ w.heap.size _ _ rfl HR.out) rfl ?_
    refine ⟨_, rfl, ?_, below_setCell (below_setCell HB2.out (Nat.le_refl _) _ _) (Nat.le_refl _) _ _⟩
    rw [EC.out, ED.out]
    exact arr_zero _ _ _
/-- A list of one array, of two, in a block of its own. -/
theorem arrs_one {W : World} {o : Nat} {x y : Value} {t : TypeId} {s d : List Int} (hb : Box W o x y t) (h : ArrI W (.agg #[x, y]) s d) : ArrsI W (.slice (some ⟨o, 0, none⟩) 1 1) [s, d] := by
  obtain ⟨a, c, b, e, e', i1, i2, g1, g2⟩ := h
  obtain ⟨rfl, rfl⟩ : x = .slice a s.length c ∧ y = .slice b d.length e := by cases e'; exact ⟨rfl, rfl⟩
  refine ⟨_, 1, 1, rfl, rfl, .inr ⟨o, 0, [.slice a s.length c, .slice b d.length e], rfl, hb.lt, rfl, fun j hj => ?_⟩⟩
  match j, hj with
  | 0, _ => exact ⟨hb.c0, a, c, rfl, g1, i1⟩
  | 1, _ => exact ⟨hb.c1, b, e, rfl, g2, i2⟩
theorem arrs_two {W : World} {o : Nat} {x y x' y' : Value} {t : TypeId} {s d s' d' : List Int} (hb : W.heap[o]? = some (.cells #[x, y, x', y'] t (0, 0))) (h : ArrI W (.agg #[x, y]) s d) (k : ArrI W (.agg #[x', y']) s' d') : ArrsI W (.slice (some ⟨o, 0, none⟩) 2 2) [s, d, s', d'] := by
  obtain ⟨a, c, b, e, e', i1, i2, g1, g2⟩ := h
  obtain ⟨rfl, rfl⟩ : x = .slice a s.length c ∧ y = .slice b d.length e := by cases e'; exact ⟨rfl, rfl⟩
  obtain ⟨a', c', b', f', e', i3, i4, g3, g4⟩ := k
  obtain ⟨rfl, rfl⟩ : x' = .slice a' s'.length c' ∧ y' = .slice b' d'.length f' := by cases e'; exact ⟨rfl, rfl⟩
  refine ⟨_, 2, 2, rfl, rfl, .inr ⟨o, 0, [.slice a s.length c, .slice b d.length e, .slice a' s'.length c', .slice b' d'.length f'], rfl, lt_of_heapA hb, rfl, fun j hj => ?_⟩⟩
  match j, hj with
  | 0, _ => exact ⟨cell_at hb rfl, a, c, rfl, g1, i1⟩
  | 1, _ => exact ⟨cell_at hb rfl, b, e, rfl, g2, i2⟩
  | 2, _ => exact ⟨cell_at hb rfl, a', c', rfl, g3, i3⟩
  | 3, _ => exact ⟨cell_at hb rfl, b', f', rfl, g4, i4⟩
theorem numsAt_one (s d : List Int) (k : Nat) : numsAt [s, d] 1 k = [numOf s d k] := rfl
theorem numsAt_two (s d s' d' : List Int) (k : Nat) : numsAt [s, d, s', d'] 2 k = [numOf s d k, numOf s' d' k] := rfl
theorem numOf_at {s d : List Int} (ho : arrOk s d = true) {k : Nat} (hk : k < d.length) : numOf s d k = d.getD k 0 := by
  unfold numOf
  by_cases e : s = []
  · subst e
    have z := arrOk_size ho
    rw [sizeV_0'] at z
    rw [if_pos rfl]
    have : k = 0 := by omega
    rw [this]
  · rw [if_neg e]
end Go.Proofs.Ytcpgdhffemecbab
namespace Go.Proofs.Ytcpgdhffemecbab
open Go.RowKit
open Go.ChangeMaps (setBlock)
set_option linter.unusedVariables false
set_option linter.unusedSimpArgs false
theorem laidOutE : laidOutB Try.prog = true := by kernel_rfl
theorem rowE : (90 : TypeId) < Try.prog.types.size := of_decide_eq_true (by kernel_rfl)
theorem wideE : (match Try.prog.underlying 90 with | some (.array _ _) | some (.struct _) => true | _ => false) = true := by rw [Try.underlying90]
set_option maxRecDepth 20000 in
theorem lawE : WideMaps.KeyLaw Try.prog 90 := deep_law_laid laidOutE (m := 3) (by omega) rowE (by kernel_rfl) wideE
/-- A shape by value is a key. -/
theorem keyE {n x y z : Int} (hn : (Lit.int .i64 n).wf = true) (hx : (Lit.int .i64 x).wf = true) (hy : (Lit.int .i64 y).wf = true) (hz : (Lit.int .i64 z).wf = true) :
    ∃ l, keyOf Try.prog 90 (.agg #[.int .i64 n, .int .i64 x, .int .i64 y, .int .i64 z]) = some l := by
  have hk : Try.prog.keyType 90 = true := by kernel_rfl
  have c4 : Try.prog.cellsOf 90 = 4 := by kernel_rfl
  have c3 : Try.prog.cellsOf 88 = 3 := by kernel_rfl
  have c1 : Try.prog.cellsOf 3 = 1 := by kernel_rfl
  obtain ⟨d, hd⟩ : ∃ d, Try.prog.types.size + 1 = d + 1 + 1 + 1 := ⟨Try.prog.types.size - 2, by have h : (90 : Nat) < Try.prog.types.size := rowE; omega⟩
  have r3 : List.range 3 = [0, 1, 2] := by decide
  have hl : Try.prog.keyLits (d + 1 + 1 + 1) 90 [.int .i64 n, .int .i64 x, .int .i64 y, .int .i64 z] = some [.int .i64 n, .int .i64 x, .int .i64 y, .int .i64 z] := by
    simp [Program.keyLits, Try.underlying90, Try.underlying88, Try.underlying3, c4, c3, c1, r3, hn, hx, hy, hz]
  refine ⟨.string (keyBytes [.int .i64 n, .int .i64 x, .int .i64 y, .int .i64 z]), ?_⟩
  have hf : (Value.agg #[.int .i64 n, .int .i64 x, .int .i64 y, .int .i64 z]).formed Try.prog 90 = true := by simp [Value.formed, Try.underlying90, c4]
  have e : keyOf Try.prog 90 (.agg #[.int .i64 n, .int .i64 x, .int .i64 y, .int .i64 z]) = if (Try.prog.keyType 90 && (Value.agg #[.int .i64 n, .int .i64 x, .int .i64 y, .int .i64 z]).formed Try.prog 90) = true then (Try.prog.keyLits (Try.prog.types.size + 1) 90 [.int .i64 n, .int .i64 x, .int .i64 y, .int .i64 z]).map fun ls => .string (keyBytes ls) else none := by
    unfold keyOf
    rw [Try.underlying90]
    rfl
  rw [e, hk, hf, hd, hl]
  rfl
theorem find_nil {w : World} {K1 : Value} {l1 : Lit} (h1 : keyOf Try.prog 90 K1 = some l1) : (Instr.findKey 90 K1 []).run Try.prog w = .ok none w := by
  rcases lawE.find w h1 [] (by simp) with ⟨h, _⟩ | ⟨j, e, _, h, _⟩
  · exact h
  · simp at h
theorem find_one {w : World} {K1 : Value} {l1 : Lit} (h1 : keyOf Try.prog 90 K1 = some l1) (v : Value) (s : Nat) : (Instr.findKey 90 K1 [⟨K1, v, s⟩]).run Try.prog w = .ok (some (0, v)) w := by
  rcases lawE.find w h1 [⟨K1, v, s⟩] (by simpa using ⟨l1, h1⟩) with ⟨_, h⟩ | ⟨j, e, h, he, _⟩
  · simp at h
  · match j, he with
    | 0, he => simp at he; subst he; exact h
theorem find_other {w : World} {K1 : Value} {K2 : Value} {l1 : Lit} {l2 : Lit} (h1 : keyOf Try.prog 90 K1 = some l1) (h2 : keyOf Try.prog 90 K2 = some l2) (hne : K1 ≠ K2) (v : Value) (s : Nat) : (Instr.findKey 90 K2 [⟨K1, v, s⟩]).run Try.prog w = .ok none w := by
  rcases lawE.find w h2 [⟨K1, v, s⟩] (by simpa using ⟨l1, h1⟩) with ⟨h, _⟩ | ⟨j, e, _, he, hk⟩
  · exact h
  · match j, he with
    | 0, he => simp at he; subst he; exact absurd hk hne
theorem find_two {w : World} {K1 : Value} {K2 : Value} {l1 : Lit} {l2 : Lit} (h1 : keyOf Try.prog 90 K1 = some l1) (h2 : keyOf Try.prog 90 K2 = some l2) (hne : K1 ≠ K2) (v u : Value) (s t : Nat) : (Instr.findKey 90 K2 [⟨K1, v, s⟩, ⟨K2, u, t⟩]).run Try.prog w = .ok (some (1, u)) w := by
  rcases lawE.find w h2 [⟨K1, v, s⟩, ⟨K2, u, t⟩] (by simpa using ⟨⟨l1, h1⟩, l2, h2⟩) with ⟨_, h⟩ | ⟨j, e, h, he, hk⟩
  · simp at h
  · match j, he with
    | 0, he => simp at he; subst he; exact absurd hk hne
    | 1, he => simp at he; subst he; exact h
theorem zeroI (w : World) : (zeroValue 3).run Try.prog w = .ok (.int .i64 0) w := by kernel_rfl
theorem look_0 {w : World} {K1 : Value} {l1 : Lit} {b : Nat} (hb : w.heap[b]? = some (.map #[] 0)) (h1 : keyOf Try.prog 90 K1 = some l1) :
    (Instr.lookup 126 (.map (some b)) K1 false).run Try.prog w = .ok (.int .i64 0) w := by
  simp [Instr.lookup, run_underlying Try.underlying126, MapKept.run_getObj_map hb, lawE.check w true h1, find_nil h1, zeroI, Result.andThen]
theorem look_1 {w : World} {K1 : Value} {l1 : Lit} {b : Nat} {v : Value} {s c : Nat} (hb : w.heap[b]? = some (.map #[⟨K1, v, s⟩] c)) (h1 : keyOf Try.prog 90 K1 = some l1) :
    (Instr.lookup 126 (.map (some b)) K1 false).run Try.prog w = .ok v w := by
  simp [Instr.lookup, run_underlying Try.underlying126, MapKept.run_getObj_map hb, lawE.check w false h1, find_one h1, Result.andThen]
theorem look_other {w : World} {K1 : Value} {K2 : Value} {l1 : Lit} {l2 : Lit} {b : Nat} {v : Value} {s c : Nat} (hb : w.heap[b]? = some (.map #[⟨K1, v, s⟩] c)) (h1 : keyOf Try.prog 90 K1 = some l1) (h2 : keyOf Try.prog 90 K2 = some l2) (hne : K1 ≠ K2) :
    (Instr.lookup 126 (.map (some b)) K2 false).run Try.prog w = .ok (.int .i64 0) w := by
  simp [Instr.lookup, run_underlying Try.underlying126, MapKept.run_getObj_map hb, lawE.check w false h2, find_other h1 h2 hne, zeroI, Result.andThen]
theorem look_2 {w : World} {K1 : Value} {K2 : Value} {l1 : Lit} {l2 : Lit} {b : Nat} {v u : Value} {s t c : Nat} (hb : w.heap[b]? = some (.map #[⟨K1, v, s⟩, ⟨K2, u, t⟩] c)) (h1 : keyOf Try.prog 90 K1 = some l1) (h2 : keyOf Try.prog 90 K2 = some l2) (hne : K1 ≠ K2) :
    (Instr.lookup 126 (.map (some b)) K2 false).run Try.prog w = .ok u w := by
  simp [Instr.lookup, run_underlying Try.underlying126, MapKept.run_getObj_map hb, lawE.check w false h2, find_two h1 h2 hne, Result.andThen]
theorem entry_0 {w : World} {K1 : Value} {l1 : Lit} {b : Nat} (hb : w.heap[b]? = some (.map #[] 0)) (h1 : keyOf Try.prog 90 K1 = some l1) :
    (Instr.mapEntry 126 (.map (some b)) K1).run Try.prog w = .ok (.tuple #[.int .i64 0, .int .i64 0]) (setBlock w b (.map #[⟨K1, .int .i64 0, 0⟩] 1)) := by
  simp [Instr.mapEntry, run_underlying Try.underlying126, MapKept.run_getObj_map hb, lawE.check w false h1, find_nil h1, zeroI, MapKept.run_setObj_map _ hb, Result.andThen, setBlock, goInt]
theorem entry_1 {w : World} {K1 : Value} {l1 : Lit} {b : Nat} {v : Value} {c : Nat} (hb : w.heap[b]? = some (.map #[⟨K1, v, 0⟩] c)) (h1 : keyOf Try.prog 90 K1 = some l1) :
    (Instr.mapEntry 126 (.map (some b)) K1).run Try.prog w = .ok (.tuple #[v, .int .i64 0]) (setBlock w b (.map #[⟨K1, v, 0⟩] c)) := by
  simp [Instr.mapEntry, run_underlying Try.underlying126, MapKept.run_getObj_map hb, lawE.check w false h1, find_one h1, lawE.stays w h1, MapKept.run_setObj_map _ hb, Result.andThen, setBlock, goInt]
theorem entry_other {w : World} {K1 : Value} {K2 : Value} {l1 : Lit} {l2 : Lit} {b : Nat} {v : Value} {s : Nat} (hb : w.heap[b]? = some (.map #[⟨K1, v, s⟩] 1)) (h1 : keyOf Try.prog 90 K1 = some l1) (h2 : keyOf Try.prog 90 K2 = some l2) (hne : K1 ≠ K2) :
    (Instr.mapEntry 126 (.map (some b)) K2).run Try.prog w = .ok (.tuple #[.int .i64 0, .int .i64 1]) (setBlock w b (.map #[⟨K1, v, s⟩, ⟨K2, .int .i64 0, 1⟩] 2)) := by
  simp [Instr.mapEntry, run_underlying Try.underlying126, MapKept.run_getObj_map hb, lawE.check w false h2, find_other h1 h2 hne, zeroI, MapKept.run_setObj_map _ hb, Result.andThen, setBlock, goInt]
theorem store_1 {w : World} {K1 : Value} {b : Nat} {v : Value} {c : Nat} (u : Value) (hb : w.heap[b]? = some (.map #[⟨K1, v, 0⟩] c)) :
    (Instr.entryStore 126 (.map (some b)) (.int .i64 0) u).run Try.prog w = .ok () (setBlock w b (.map #[⟨K1, u, 0⟩] c)) := by
  simp [Instr.entryStore, MapKept.run_getObj_map hb, asInt, asIntOf, MapKept.run_setObj_map _ hb, Result.andThen, setBlock]
theorem store_2 {w : World} {K1 : Value} {K2 : Value} {b : Nat} {v v' : Value} {c : Nat} (u : Value) (hb : w.heap[b]? = some (.map #[⟨K1, v, 0⟩, ⟨K2, v', 1⟩] c)) :
    (Instr.entryStore 126 (.map (some b)) (.int .i64 1) u).run Try.prog w = .ok () (setBlock w b (.map #[⟨K1, v, 0⟩, ⟨K2, u, 1⟩] c)) := by
  simp [Instr.entryStore, List.findIdx?_cons, MapKept.run_getObj_map hb, asInt, asIntOf, MapKept.run_setObj_map _ hb, Result.andThen, setBlock]
end Go.Proofs.Ytcpgdhffemecbab
namespace Go.Proofs.Ytcpgdhffemecbab
open Go.RowKit
open Go.ChangeMaps (setBlock)
set_option linter.unusedVariables false
set_option linter.unusedSimpArgs false
theorem setBlock_at {w : World} {b : Nat} {o : Obj} (h : b < w.heap.size) : (setBlock w b o).heap[b]? = some o := by simp [setBlock, h]
theorem setBlock_but (w : World) (b : Nat) (o : Obj) : But b w (setBlock w b o) :=
  ⟨rfl, rfl, rfl, by simp [setBlock], fun k _ hk => by simp only [setBlock]; rw [Array.getElem?_setIfInBounds_ne (Ne.symm hk)]⟩
theorem lt_of_heap {w : World} {b : Nat} {o : Obj} (h : w.heap[b]? = some o) : b < w.heap.size := (Array.getElem?_eq_some_iff.1 h).1
theorem setBlock_size (w : World) (b : Nat) (o : Obj) : (setBlock w b o).heap.size = w.heap.size := by simp [setBlock]
theorem step_first {K1 : Value} {l1 : Lit} {b : Nat} (W : World) (hm : W.heap[b]? = some (.map #[] 0)) (h1 : keyOf Try.prog 90 K1 = some l1) :
    ∃ W1 W2, (Instr.lookup 126 (.map (some b)) K1 false).run Try.prog W = .ok (.int .i64 0) W ∧ (Instr.mapEntry 126 (.map (some b)) K1).run Try.prog W = .ok (.tuple #[.int .i64 0, .int .i64 0]) W1 ∧
      (Instr.lookup 126 (.map (some b)) K1 false).run Try.prog W1 = .ok (.int .i64 0) W1 ∧ (Instr.entryStore 126 (.map (some b)) (.int .i64 0) (.int .i64 1)).run Try.prog W1 = .ok () W2 ∧
      W2.heap[b]? = some (.map #[⟨K1, .int .i64 1, 0⟩] 1) ∧ But b W W2 ∧ W2.heap.size = W.heap.size := by
  have hb := lt_of_heap hm
  have q : (setBlock W b (.map #[⟨K1, .int .i64 0, 0⟩] 1)).heap[b]? = some (.map #[⟨K1, .int .i64 0, 0⟩] 1) := setBlock_at hb
  refine ⟨_, _, look_0 hm h1, entry_0 hm h1, look_1 q h1, store_1 (.int .i64 1) q, setBlock_at (by rw [setBlock_size]; exact hb), (setBlock_but _ _ _).trans (setBlock_but _ _ _), by rw [setBlock_size, setBlock_size]⟩
theorem step_same {K1 : Value} {l1 : Lit} {b : Nat} (W : World) (hm : W.heap[b]? = some (.map #[⟨K1, .int .i64 1, 0⟩] 1)) (h1 : keyOf Try.prog 90 K1 = some l1) :
    ∃ W1 W2, (Instr.lookup 126 (.map (some b)) K1 false).run Try.prog W = .ok (.int .i64 1) W ∧ (Instr.mapEntry 126 (.map (some b)) K1).run Try.prog W = .ok (.tuple #[.int .i64 1, .int .i64 0]) W1 ∧
      (Instr.lookup 126 (.map (some b)) K1 false).run Try.prog W1 = .ok (.int .i64 1) W1 ∧ (Instr.entryStore 126 (.map (some b)) (.int .i64 0) (.int .i64 2)).run Try.prog W1 = .ok () W2 ∧
      W2.heap[b]? = some (.map #[⟨K1, .int .i64 2, 0⟩] 1) ∧ But b W W2 := by
  have hb := lt_of_heap hm
  have q : (setBlock W b (.map #[⟨K1, .int .i64 1, 0⟩] 1)).heap[b]? = some (.map #[⟨K1, .int .i64 1, 0⟩] 1) := setBlock_at hb
  exact ⟨_, _, look_1 hm h1, entry_1 hm h1, look_1 q h1, store_1 (.int .i64 2) q, setBlock_at (by rw [setBlock_size]; exact hb), (setBlock_but _ _ _).trans (setBlock_but _ _ _)⟩
theorem step_other {K1 : Value} {K2 : Value} {l1 : Lit} {l2 : Lit} {b : Nat} (W : World) (hm : W.heap[b]? = some (.map #[⟨K1, .int .i64 1, 0⟩] 1)) (h1 : keyOf Try.prog 90 K1 = some l1) (h2 : keyOf Try.prog 90 K2 = some l2) (hne : K1 ≠ K2) :
    ∃ W1 W2, (Instr.lookup 126 (.map (some b)) K2 false).run Try.prog W = .ok (.int .i64 0) W ∧ (Instr.mapEntry 126 (.map (some b)) K2).run Try.prog W = .ok (.tuple #[.int .i64 0, .int .i64 1]) W1 ∧
      (Instr.lookup 126 (.map (some b)) K2 false).run Try.prog W1 = .ok (.int .i64 0) W1 ∧ (Instr.entryStore 126 (.map (some b)) (.int .i64 1) (.int .i64 1)).run Try.prog W1 = .ok () W2 ∧
      W2.heap[b]? = some (.map #[⟨K1, .int .i64 1, 0⟩, ⟨K2, .int .i64 1, 1⟩] 2) ∧ But b W W2 := by
  have hb := lt_of_heap hm
  have q : (setBlock W b (.map #[⟨K1, .int .i64 1, 0⟩, ⟨K2, .int .i64 0, 1⟩] 2)).heap[b]? = some (.map #[⟨K1, .int .i64 1, 0⟩, ⟨K2, .int .i64 0, 1⟩] 2) := setBlock_at hb
  exact ⟨_, _, look_other hm h1 h2 hne, entry_other hm h1 h2 hne, look_2 q h1 h2 hne, store_2 (.int .i64 1) q, setBlock_at (by rw [setBlock_size]; exact hb), (setBlock_but _ _ _).trans (setBlock_but _ _ _)⟩
theorem len_map {b : Nat} {W : World} {es : Array MapEntry} {c : Nat} (ty : TypeId) (hm : W.heap[b]? = some (.map es c)) : (Builtin.len_ #[126] ty #[.map (some b)]).run Try.prog W = .ok (.int .i64 es.size) W := by
  simp [Builtin.len_, Builtin.lenOf, MapKept.run_getObj_map hm, run_underlying Try.underlying126, goInt, Result.andThen]
set_option maxRecDepth 20000 in
set_option maxHeartbeats 4000000 in
theorem alike_one (n x y z : Int) (g : Nat) (w : World) (l1 : Lit)
    (h1 : keyOf Try.prog 90 (.agg #[.int .i64 n, .int .i64 x, .int .i64 y, .int .i64 z]) = some l1)
    (hg : g < w.heap.size)
    (c0 : w.cell? ⟨g, 0, none⟩ = some (.int .i64 n)) (c1 : w.cell? ⟨g, 1, none⟩ = some (.int .i64 x)) (c2 : w.cell? ⟨g, 2, none⟩ = some (.int .i64 y)) (c3 : w.cell? ⟨g, 3, none⟩ = some (.int .i64 z)) (c4 : w.cell? ⟨g, 4, none⟩ = some (.int .i64 n)) (c5 : w.cell? ⟨g, 5, none⟩ = some (.int .i64 x)) (c6 : w.cell? ⟨g, 6, none⟩ = some (.int .i64 y)) (c7 : w.cell? ⟨g, 7, none⟩ = some (.int .i64 z)) :
    Calls Try.prog 105 #[.slice (some ⟨g, 0, none⟩) 2 2] w fun e w' => e = .returned (.bool true) ∧ Below w.heap.size w w' := by
  have K1 : Hid (keyOf Try.prog 90 (.agg #[.int .i64 n, .int .i64 x, .int .i64 y, .int .i64 z]) = some l1) := h1
  clear h1
  have hmm := @run_makeMap Try.prog
  go_enter Try.func105, Try.ntmps105
  go_wp2
  refine wp_loop_rounds 3 ?_
  rw [rounds_succ]
  go_wp2
  generalize hW : World.alloc (World.alloc w (.map #[] 0)) (.cells #[.int .i64 n, .int .i64 x, .int .i64 y, .int .i64 z] 90) = W
  have HB : Hid (Below w.heap.size w W) := by rw [← hW]; exact bAlloc (bAlloc (Below.refl _ _) _) _
  have hm : W.heap[w.heap.size]? = some (.map #[] 0) := by rw [← hW]; exact heap_alloc2_old w _ _
  have e0 : W.cell? ⟨w.heap.size + 1, 0, none⟩ = some (.int .i64 n) := by rw [← hW]; simp
  have e1 : W.cell? ⟨w.heap.size + 1, 1, none⟩ = some (.int .i64 x) := by rw [← hW]; simp
  have e2 : W.cell? ⟨w.heap.size + 1, 2, none⟩ = some (.int .i64 y) := by rw [← hW]; simp
  have e3 : W.cell? ⟨w.heap.size + 1, 3, none⟩ = some (.int .i64 z) := by rw [← hW]; simp
  clear hW
  obtain ⟨W1, W2, f1, f2, f3, f4, m2, hbut, hsz⟩ := step_first (b := w.heap.size) W.drew hm K1.out
  have M2 : Hid (W2.heap[w.heap.size]? = some (.map #[⟨.agg #[.int .i64 n, .int .i64 x, .int .i64 y, .int .i64 z], .int .i64 1, 0⟩] 1)) := m2
  have HB2 : Hid (Below w.heap.size w W2) := (HB.out.drew).trans (hbut.below (Nat.le_refl _) HB.out.size)
  clear m2 hbut hsz
  go_region
  clear f1 f2 f3 f4 hm e0 e1 e2 e3 c0 c1 c2 c3
  clear W1 HB W
  have d4 : W2.cell? ⟨g, 4, none⟩ = some (.int .i64 n) := by rw [HB2.out.cell (p := ⟨g, 4, none⟩) hg]; exact c4
  have d5 : W2.cell? ⟨g, 5, none⟩ = some (.int .i64 x) := by rw [HB2.out.cell (p := ⟨g, 5, none⟩) hg]; exact c5
  have d6 : W2.cell? ⟨g, 6, none⟩ = some (.int .i64 y) := by rw [HB2.out.cell (p := ⟨g, 6, none⟩) hg]; exact c6
  have d7 : W2.cell? ⟨g, 7, none⟩ = some (.int .i64 z) := by rw [HB2.out.cell (p := ⟨g, 7, none⟩) hg]; exact c7
  clear c4 c5 c6 c7
  go_wp2
  rw [rounds_succ]
  go_wp2
  generalize hW : World.alloc W2 (.cells #[.int .i64 n, .int .i64 x, .int .i64 y, .int .i64 z] 90) = W
  have HB : Hid (Below w.heap.size w W) := by rw [← hW]; exact bAlloc HB2.out _
  have hm : W.heap[w.heap.size]? = some (.map #[⟨.agg #[.int .i64 n, .int .i64 x, .int .i64 y, .int .i64 z], .int .i64 1, 0⟩] 1) := by rw [← hW, heap_alloc_old _ _ (lt_of_heap M2.out)]; exact M2.out
  have e0 : W.cell? ⟨W2.heap.size, 0, none⟩ = some (.int .i64 n) := by rw [← hW]; exact cell_new _ _ _ rfl
  have e1 : W.cell? ⟨W2.heap.size, 1, none⟩ = some (.int .i64 x) := by rw [← hW]; exact cell_new _ _ _ rfl
  have e2 : W.cell? ⟨W2.heap.size, 2, none⟩ = some (.int .i64 y) := by rw [← hW]; exact cell_new _ _ _ rfl
  have e3 : W.cell? ⟨W2.heap.size, 3, none⟩ = some (.int .i64 z) := by rw [← hW]; exact cell_new _ _ _ rfl
  clear hW d4 d5 d6 d7
  obtain ⟨W3, W4, f1, f2, f3, f4, m4, hbut⟩ := step_same (b := w.heap.size) W.drew hm K1.out
  have HB4 : Hid (Below w.heap.size w W4) := (HB.out.drew).trans (hbut.below (Nat.le_refl _) HB.out.size)
  have hlen : ∀ ty, (Builtin.len_ #[126] ty #[.map (some w.heap.size)]).run Try.prog W4 = .ok (.int .i64 1) W4 := fun ty => len_map ty m4
  clear m4 hbut
  go_region
  clear f1 f2 f3 f4 hm e0 e1 e2 e3
  go_wp2
  rw [rounds_succ]
  go_wp2
  go_ret
  exact ⟨rfl, HB4.out⟩
set_option maxRecDepth 20000 in
set_option maxHeartbeats 4000000 in
theorem alike_two (n x y z n' x' y' z' : Int) (g : Nat) (w : World) (l1 l2 : Lit)
    (h1 : keyOf Try.prog 90 (.agg #[.int .i64 n, .int .i64 x, .int .i64 y, .int .i64 z]) = some l1) (h2 : keyOf Try.prog 90 (.agg #[.int .i64 n', .int .i64 x', .int .i64 y', .int .i64 z']) = some l2)
    (hg : g < w.heap.size)
    (c0 : w.cell? ⟨g, 0, none⟩ = some (.int .i64 n)) (c1 : w.cell? ⟨g, 1, none⟩ = some (.int .i64 x)) (c2 : w.cell? ⟨g, 2, none⟩ = some (.int .i64 y)) (c3 : w.cell? ⟨g, 3, none⟩ = some (.int .i64 z)) (c4 : w.cell? ⟨g, 4, none⟩ = some (.int .i64 n')) (c5 : w.cell? ⟨g, 5, none⟩ = some (.int .i64 x')) (c6 : w.cell? ⟨g, 6, none⟩ = some (.int .i64 y')) (c7 : w.cell? ⟨g, 7, none⟩ = some (.int .i64 z'))
    (hne : (Value.agg #[.int .i64 n, .int .i64 x, .int .i64 y, .int .i64 z]) ≠ .agg #[.int .i64 n', .int .i64 x', .int .i64 y', .int .i64 z']) :
    Calls Try.prog 105 #[.slice (some ⟨g, 0, none⟩) 2 2] w fun e w' => e = .returned (.bool false) ∧ Below w.heap.size w w' := by
  have K1 : Hid (keyOf Try.prog 90 (.agg #[.int .i64 n, .int .i64 x, .int .i64 y, .int .i64 z]) = some l1) := h1
  have K2 : Hid (keyOf Try.prog 90 (.agg #[.int .i64 n', .int .i64 x', .int .i64 y', .int .i64 z']) = some l2) := h2
  have NE : Hid ((Value.agg #[.int .i64 n, .int .i64 x, .int .i64 y, .int .i64 z]) ≠ .agg #[.int .i64 n', .int .i64 x', .int .i64 y', .int .i64 z']) := hne
  clear h1 h2 hne
  have hmm := @run_makeMap Try.prog
  go_enter Try.func105, Try.ntmps105
  go_wp2
  refine wp_loop_rounds 3 ?_
  rw [rounds_succ]
  go_wp2
  generalize hW : World.alloc (World.alloc w (.map #[] 0)) (.cells #[.int .i64 n, .int .i64 x, .int .i64 y, .int .i64 z] 90) = W
  have HB : Hid (Below w.heap.size w W) := by rw [← hW]; exact bAlloc (bAlloc (Below.refl _ _) _) _
  have hm : W.heap[w.heap.size]? = some (.map #[] 0) := by rw [← hW]; exact heap_alloc2_old w _ _
  have e0 : W.cell? ⟨w.heap.size + 1, 0, none⟩ = some (.int .i64 n) := by rw [← hW]; simp
  have e1 : W.cell? ⟨w.heap.size + 1, 1, none⟩ = some (.int .i64 x) := by rw [← hW]; simp
  have e2 : W.cell? ⟨w.heap.size + 1, 2, none⟩ = some (.int .i64 y) := by rw [← hW]; simp
  have e3 : W.cell? ⟨w.heap.size + 1, 3, none⟩ = some (.int .i64 z) := by rw [← hW]; simp
  clear hW
  obtain ⟨W1, W2, f1, f2, f3, f4, m2, hbut, hsz⟩ := step_first (b := w.heap.size) W.drew hm K1.out
  have M2 : Hid (W2.heap[w.heap.size]? = some (.map #[⟨.agg #[.int .i64 n, .int .i64 x, .int .i64 y, .int .i64 z], .int .i64 1, 0⟩] 1)) := m2
  have HB2 : Hid (Below w.heap.size w W2) := (HB.out.drew).trans (hbut.below (Nat.le_refl _) HB.out.size)
  clear m2 hbut hsz
  go_region
  clear f1 f2 f3 f4 hm e0 e1 e2 e3 c0 c1 c2 c3
  clear W1 HB W
  have d4 : W2.cell? ⟨g, 4, none⟩ = some (.int .i64 n') := by rw [HB2.out.cell (p := ⟨g, 4, none⟩) hg]; exact c4
  have d5 : W2.cell? ⟨g, 5, none⟩ = some (.int .i64 x') := by rw [HB2.out.cell (p := ⟨g, 5, none⟩) hg]; exact c5
  have d6 : W2.cell? ⟨g, 6, none⟩ = some (.int .i64 y') := by rw [HB2.out.cell (p := ⟨g, 6, none⟩) hg]; exact c6
  have d7 : W2.cell? ⟨g, 7, none⟩ = some (.int .i64 z') := by rw [HB2.out.cell (p := ⟨g, 7, none⟩) hg]; exact c7
  clear c4 c5 c6 c7
  go_wp2
  rw [rounds_succ]
  go_wp2
  generalize hW : World.alloc W2 (.cells #[.int .i64 n', .int .i64 x', .int .i64 y', .int .i64 z'] 90) = W
  have HB : Hid (Below w.heap.size w W) := by rw [← hW]; exact bAlloc HB2.out _
  have hm : W.heap[w.heap.size]? = some (.map #[⟨.agg #[.int .i64 n, .int .i64 x, .int .i64 y, .int .i64 z], .int .i64 1, 0⟩] 1) := by rw [← hW, heap_alloc_old _ _ (lt_of_heap M2.out)]; exact M2.out
  have e0 : W.cell? ⟨W2.heap.size, 0, none⟩ = some (.int .i64 n') := by rw [← hW]; exact cell_new _ _ _ rfl
  have e1 : W.cell? ⟨W2.heap.size, 1, none⟩ = some (.int .i64 x') := by rw [← hW]; exact cell_new _ _ _ rfl
  have e2 : W.cell? ⟨W2.heap.size, 2, none⟩ = some (.int .i64 y') := by rw [← hW]; exact cell_new _ _ _ rfl
  have e3 : W.cell? ⟨W2.heap.size, 3, none⟩ = some (.int .i64 z') := by rw [← hW]; exact cell_new _ _ _ rfl
  clear hW d4 d5 d6 d7
  obtain ⟨W3, W4, f1, f2, f3, f4, m4, hbut⟩ := step_other (b := w.heap.size) W.drew hm K1.out K2.out NE.out
  have HB4 : Hid (Below w.heap.size w W4) := (HB.out.drew).trans (hbut.below (Nat.le_refl _) HB.out.size)
  have hlen : ∀ ty, (Builtin.len_ #[126] ty #[.map (some w.heap.size)]).run Try.prog W4 = .ok (.int .i64 2) W4 := fun ty => len_map ty m4
  clear m4 hbut
  go_region
  clear f1 f2 f3 f4 hm e0 e1 e2 e3
  go_wp2
  rw [rounds_succ]
  go_wp2
  go_ret
  exact ⟨rfl, HB4.out⟩
end Go.Proofs.Ytcpgdhffemecbab
namespace Go.Proofs.Ytcpgdhffemecbab
open Go.RowKit
set_option linter.unusedVariables false
theorem ext_eq {l m : List Int} {n n' : Nat} {x y z x' y' z' : Int} (h1 : Ext l n x y z) (h2 : Ext m n' x' y' z') (k1 : l.length ≤ 3) (k2 : m.length ≤ 3) (e : (n : Int) = n' ∧ x = x' ∧ y = y' ∧ z = z') : l = m := by
  obtain ⟨rfl, rfl, rfl, rfl⟩ := h1
  obtain ⟨rfl, rfl, rfl, rfl⟩ := h2
  obtain ⟨e0, e1, e2, e3⟩ := e
  have e0 : l.length = m.length := by omega
  apply List.ext_getElem e0
  intro i a b
  have : i = 0 ∨ i = 1 ∨ i = 2 := by omega
  rcases this with rfl | rfl | rfl
  · simpa [a, b] using e1
  · simpa [a, b] using e2
  · simpa [a, b] using e3
theorem ext_wf {l : List Int} {n : Nat} {x y z : Int} (hs : 0 ≤ sizeV l) (he : Ext l n x y z) : (Lit.int .i64 (n : Int)).wf = true ∧ (Lit.int .i64 x).wf = true ∧ (Lit.int .i64 y).wf = true ∧ (Lit.int .i64 z).wf = true := by
  obtain ⟨rfl, rfl, rfl, rfl⟩ := he
  obtain ⟨k1, k2, k3, k4⟩ := sizeV_ok hs
  have d : ∀ k, 0 ≤ l.getD k 0 ∧ l.getD k 0 ≤ 300 := by
    intro k
    by_cases hk : k < l.length
    · rw [List.all_eq_true] at k2
      exact dimOk_bd (k2 _ (by simp [hk]))
    · simp [List.getD, List.getElem?_eq_none (Nat.le_of_not_lt hk)]
  have d0 := d 0
  have d1 := d 1
  have d2 := d 2
  exact ⟨WalkArith.wf_i64 (by omega), WalkArith.wf_i64 (by omega), WalkArith.wf_i64 (by omega), WalkArith.wf_i64 (by omega)⟩
/-- Whether two shapes by value are one. -/
theorem alike_ext {l m : List Int} {n n' : Nat} {x y z x' y' z' : Int} (hs : 0 ≤ sizeV l) (ht : 0 ≤ sizeV m) (h1 : Ext l n x y z) (h2 : Ext m n' x' y' z') (g : Nat) (w : World) (hg : g < w.heap.size)
    (c0 : w.cell? ⟨g, 0, none⟩ = some (.int .i64 n)) (c1 : w.cell? ⟨g, 1, none⟩ = some (.int .i64 x)) (c2 : w.cell? ⟨g, 2, none⟩ = some (.int .i64 y)) (c3 : w.cell? ⟨g, 3, none⟩ = some (.int .i64 z))
    (c4 : w.cell? ⟨g, 4, none⟩ = some (.int .i64 n')) (c5 : w.cell? ⟨g, 5, none⟩ = some (.int .i64 x')) (c6 : w.cell? ⟨g, 6, none⟩ = some (.int .i64 y')) (c7 : w.cell? ⟨g, 7, none⟩ = some (.int .i64 z')) :
    Calls Try.prog 105 #[.slice (some ⟨g, 0, none⟩) 2 2] w fun e w' => e = .returned (.bool (decide (l = m))) ∧ Below w.heap.size w w' := by
  obtain ⟨a0, a1, a2, a3⟩ := ext_wf hs h1
  obtain ⟨b0, b1, b2, b3⟩ := ext_wf ht h2
  obtain ⟨l1, k1⟩ := keyE a0 a1 a2 a3
  obtain ⟨l2, k2⟩ := keyE b0 b1 b2 b3
  by_cases e : (n : Int) = n' ∧ x = x' ∧ y = y' ∧ z = z'
  · have q := ext_eq h1 h2 (sizeV_ok hs).1 (sizeV_ok ht).1 e
    obtain ⟨e0, rfl, rfl, rfl⟩ := e
    rw [show decide (l = m) = true by simpa using q]
    rw [← e0] at c4
    exact alike_one n x y z g w l1 k1 hg c0 c1 c2 c3 c4 c5 c6 c7
  · have q : ¬ l = m := by
      rintro rfl
      obtain ⟨rfl, rfl, rfl, rfl⟩ := h1
      obtain ⟨rfl, rfl, rfl, rfl⟩ := h2
      exact e ⟨rfl, rfl, rfl, rfl⟩
    rw [show decide (l = m) = false by simpa using q]
    exact alike_two n x y z n' x' y' z' g w l1 l2 k1 k2 hg c0 c1 c2 c3 c4 c5 c6 c7 (by
      intro h
      simp at h
      exact e ⟨by omega, h.2⟩)
set_option maxRecDepth 20000 in
set_option maxHeartbeats 2000000 in
/-- ShapeSame, whatever lists it is given. -/
theorem same_impl {l m : List Int} {a b : Option Addr} {w : World} (c d : Nat) (h1 : Ints w a l) (h2 : Ints w b m) :
    Calls Try.prog 78 #[.slice a l.length c, .slice b m.length d] w fun e w' => e = .returned (.bool (decide (0 ≤ sizeV l) && decide (l = m))) ∧ Below w.heap.size w w' := by
  have H1 : Hid (Ints w a l) := h1
  have H2 : Hid (Ints w b m) := h2
  clear h1 h2
  by_cases hs : 0 ≤ sizeV l
  · have hs' : decide (0 ≤ sizeV l) = true := by simpa using hs
    have HS : Hid (0 ≤ sizeV l) := hs
    by_cases ht : 0 ≤ sizeV m
    · have ht' : decide (0 ≤ sizeV m) = true := by simpa using ht
      have HT : Hid (0 ≤ sizeV m) := ht
      clear hs ht
      generalize hq : decide (l = m) = q
      have HQ : Hid (decide (l = m) = q) := hq
      clear hq
      go_enter Try.func78, Try.ntmps78
      go_wp2_with fail
      refine (ext_impl _ H1.out).mono ?_
      rintro e w1 ⟨n, x, y, z, rfl, he, hb⟩
      have HE : Hid (Ext l n x y z) := he HS.out
      have HB : Hid (Below w.heap.size w w1) := hb
      clear he hb
      go_wp2_with fail
      refine (ext_impl _ ((H2.out.keep HB.out).alloc _)).mono ?_
      rintro e w2 ⟨n', x', y', z', rfl, he, hb⟩
      have HE2 : Hid (Ext m n' x' y' z') := he HT.out
      have HB2 : Hid (Below w.heap.size w w2) := bTrans (bAlloc HB.out _) hb
      have r0 : ∀ o : Obj, (w2.alloc o).cell? ⟨w1.heap.size, 0, none⟩ = some (.int .i64 n) := fun o => by rw [(bAlloc hb o).cell (p := ⟨w1.heap.size, 0, none⟩) (by simp)]; exact cell_new _ _ _ rfl
      have r1 : ∀ o : Obj, (w2.alloc o).cell? ⟨w1.heap.size, 1, none⟩ = some (.int .i64 x) := fun o => by rw [(bAlloc hb o).cell (p := ⟨w1.heap.size, 1, none⟩) (by simp)]; exact cell_new _ _ _ rfl
      have r2 : ∀ o : Obj, (w2.alloc o).cell? ⟨w1.heap.size, 2, none⟩ = some (.int .i64 y) := fun o => by rw [(bAlloc hb o).cell (p := ⟨w1.heap.size, 2, none⟩) (by simp)]; exact cell_new _ _ _ rfl
      have r3 : ∀ o : Obj, (w2.alloc o).cell? ⟨w1.heap.size, 3, none⟩ = some (.int .i64 z) := fun o => by rw [(bAlloc hb o).cell (p := ⟨w1.heap.size, 3, none⟩) (by simp)]; exact cell_new _ _ _ rfl
      clear he hb
      go_wp2_with fail
      refine (alike_ext HS.out HT.out HE.out HE2.out (w2.heap.size + 1) _ (by simp) (by simp) (by simp) (by simp) (by simp) (by simp) (by simp) (by simp) (by simp)).mono ?_
      rintro e w3 ⟨rfl, hb⟩
      have HB3 : Hid (Below w.heap.size w w3) := bTrans (bAlloc (bAlloc HB2.out _) _) hb
      clear hb
      rw [HQ.out]
      go_wp2
      go_ret
      exact ⟨by simp [hs'], HB3.out⟩
    · have ht' : decide (0 ≤ sizeV m) = false := by simpa using ht
      have hne : l ≠ m := fun e => ht (e ▸ hs)
      have HN : Hid (l ≠ m) := hne
      clear hs ht hne
      go_enter Try.func78, Try.ntmps78
      go_wp2_with fail
      refine (ext_impl _ H1.out).mono ?_
      rintro e w1 ⟨n, x, y, z, rfl, he, hb⟩
      have HB : Hid (Below w.heap.size w w1) := hb
      clear he hb
      go_wp2_with fail
      refine (ext_impl _ ((H2.out.keep HB.out).alloc _)).mono ?_
      rintro e w2 ⟨n', x', y', z', rfl, he, hb⟩
      have HB2 : Hid (Below w.heap.size w w2) := bTrans (bAlloc HB.out _) hb
      clear he hb
      go_wp2
      go_ret
      exact ⟨by simp [HN.out], bAlloc HB2.out _⟩
  · have hs' : decide (0 ≤ sizeV l) = false := by simpa using hs
    clear hs
    go_enter Try.func78, Try.ntmps78
    go_wp2_with fail
    refine (ext_impl _ H1.out).mono ?_
    rintro e w1 ⟨n, x, y, z, rfl, he, hb⟩
    have HB : Hid (Below w.heap.size w w1) := hb
    clear he hb
    go_wp2_with fail
    refine (ext_impl _ ((H2.out.keep HB.out).alloc _)).mono ?_
    rintro e w2 ⟨n', x', y', z', rfl, he, hb⟩
    have HB2 : Hid (Below w.heap.size w w2) := bTrans (bAlloc HB.out _) hb
    clear he hb
    generalize decide (0 ≤ sizeV m) = q
    go_wp2
    go_ret
    exact ⟨by simp [hs'], bAlloc HB2.out _⟩
end Go.Proofs.Ytcpgdhffemecbab
namespace Go.Proofs.Ytcpgdhffemecbab
open Go.RowKit
set_option linter.unusedVariables false
set_option linter.unusedSimpArgs false
theorem fitC_no {s d t e : List Int} (h : ¬ (arrOk s d = true ∧ arrOk t e = true)) : fitC s d t e = 1 := by unfold fitC; rw [if_neg h]
set_option maxRecDepth 20000 in
set_option maxHeartbeats 4000000 in
/-- Fit. -/
theorem fit_impl {s d t e : List Int} {w : World} {v u : Value} (h : ArrI w v s d) (k : ArrI w u t e) (hs : s.length ≤ 1048576) (hd : d.length ≤ 1048576) (ht : t.length ≤ 1048576) (he : e.length ≤ 1048576) :
    Calls Try.prog 37 #[v, u] w fun r w' => ∃ v', r = .returned (.tuple #[v', .int .i64 (fitC s d t e)]) ∧ Piece w.heap.size w'.heap.size w' v' (fitS s d t e) ∧ Below w.heap.size w w' := by
  have H : Hid (ArrI w v s d) := h
  have K : Hid (ArrI w u t e) := k
  obtain ⟨a, c, b, f, rfl, h1, h2, g1, g2⟩ := h
  obtain ⟨a', c', b', f', rfl, k1, k2, g3, g4⟩ := k
  have H1 : Hid (IntsI w (.slice a s.length c) s) := ⟨a, c, rfl, g1, h1⟩
  have K1 : Hid (IntsI w (.slice a' t.length c') t) := ⟨a', c', rfl, g3, k1⟩
  have I1 : Hid (Ints w a s) := h1
  have I2 : Hid (Ints w a' t) := k1
  have HS : Hid (s.length ≤ 1048576) := hs
  have HD : Hid (d.length ≤ 1048576) := hd
  have HT : Hid (t.length ≤ 1048576) := ht
  have HE : Hid (e.length ≤ 1048576) := he
  clear h1 h2 k1 k2 hs hd ht he g1 g2 g3 g4
  by_cases ho : arrOk s d = true
  · have HO : Hid (arrOk s d = true) := ho
    by_cases ho' : arrOk t e = true
    · have HO' : Hid (arrOk t e = true) := ho'
      have key : Hid (fitC s d t e = if s = [] ∨ t = [] then 0 else if s.length ≠ t.length then 4 else if s ≠ t then 3 else 0) := by show _ = _; unfold fitC; rw [if_pos ⟨ho, ho'⟩]
      have fs : Hid (fitS s d t e = if fitC s d t e = 0 then (if s = [] then t else s) else []) := rfl
      have SH : Hid (decide (0 ≤ sizeV s) = true) := by show _ = _; simpa using arrOk_shape ho
      clear ho ho'
      go_enter Try.func37, Try.ntmps37
      go_wp2_with fail
      refine (arrOk_impl (H.out.keep (bAlloc (bAlloc (Below.refl _ _) _) _)) HD.out).mono ?_
      rintro r w1 ⟨rfl, hb⟩
      have HB1 : Hid (Below w.heap.size w w1) := bTrans (bAlloc (bAlloc (Below.refl _ _) _) _) hb
      have X1 : Hid (Box w1 w.heap.size (.slice a s.length c) (.slice b d.length f) 26) := ((box_new w _ _ _).keep (bAlloc (Below.refl _ _) _)).keep hb
      have Y1 : Hid (Box w1 (w.heap.size + 1) (.slice a' t.length c') (.slice b' e.length f') 26) := (box_new2 w _ _ _ _).keep hb
      have x0 := X1.out.c0
      have x1 := X1.out.c1
      have y0 := Y1.out.c0
      have y1 := Y1.out.c1
      clear hb
      rw [HO.out]
      go_wp2_with fail
      refine (arrOk_impl (K.out.keep HB1.out) HE.out).mono ?_
      rintro r w2 ⟨rfl, hb⟩
      have HB2 : Hid (Below w.heap.size w w2) := bTrans HB1.out hb
      have X2 : Hid (Box w2 w.heap.size (.slice a s.length c) (.slice b d.length f) 26) := X1.out.keep hb
      have Y2 : Hid (Box w2 (w.heap.size + 1) (.slice a' t.length c') (.slice b' e.length f') 26) := Y1.out.keep hb
      clear hb x0 x1 y0 y1 X1 Y1 HB1
      have x0 := X2.out.c0
      have y0 := Y2.out.c0
      rw [HO'.out]
      by_cases e1 : s = []
      · subst e1
        have EC : Hid (fitC [] d t e = 0) := by show _ = _; rw [key.out, if_pos (.inl rfl)]
        have ES : Hid (fitS [] d t e = t) := by show _ = _; rw [fs.out, if_pos EC.out, if_pos rfl]
        go_wp2_with fail
        refine (copied_new (K1.out.keep HB2.out) HT.out).mono ?_
        rintro r w9 ⟨a9, c9, rfl, hp, hb⟩
        have P9 : Hid (Piece w.heap.size w9.heap.size w9 _ _ ∧ Below w.heap.size w w9) := ⟨hp.mono HB2.out.size (Nat.le_refl _), bTrans HB2.out hb⟩
        clear hp hb
        go_wp2
        go_ret2
        exact ⟨_, by rw [EC.out]; rfl, by rw [ES.out]; exact P9.out.1, P9.out.2⟩
      · have n1 : ((s.length : Int) == 0) = false := by
          have := List.length_pos_iff.2 e1
          simp; omega
        by_cases e2 : t = []
        · subst e2
          have EC : Hid (fitC s d [] e = 0) := by show _ = _; rw [key.out, if_pos (.inr rfl)]
          have ES : Hid (fitS s d [] e = s) := by show _ = _; rw [fs.out, if_pos EC.out, if_neg e1]
          go_wp2_with fail
          refine (copied_new (H1.out.keep HB2.out) HS.out).mono ?_
          rintro r w9 ⟨a9, c9, rfl, hp, hb⟩
          have P9 : Hid (Piece w.heap.size w9.heap.size w9 _ _ ∧ Below w.heap.size w w9) := ⟨hp.mono HB2.out.size (Nat.le_refl _), bTrans HB2.out hb⟩
          clear hp hb
          go_wp2
          go_ret2
          exact ⟨_, by rw [EC.out]; rfl, by rw [ES.out]; exact P9.out.1, P9.out.2⟩
        · have n2 : ((t.length : Int) == 0) = false := by
            have := List.length_pos_iff.2 e2
            simp; omega
          have key2 : Hid (fitC s d t e = if s.length ≠ t.length then 4 else if s ≠ t then 3 else 0) := by show _ = _; rw [key.out, if_neg (by simp [e1, e2])]
          have E1 : Hid (s ≠ []) := e1
          clear e1 e2
          by_cases e3 : s.length = t.length
          · have n3 : ((s.length : Int) != (t.length : Int)) = false := by simp [e3]
            have E3 : Hid (s.length = t.length) := e3
            clear e3
            by_cases e4 : s = t
            · have EC : Hid (fitC s d t e = 0) := by show _ = _; rw [key2.out, if_neg (by simpa using E3.out), if_neg (by simpa using e4)]
              have ES : Hid (fitS s d t e = s) := by show _ = _; rw [fs.out, if_pos EC.out, if_neg E1.out]
              have DQ : Hid ((decide (0 ≤ sizeV s) && decide (s = t)) = true) := by show _ = _; rw [SH.out]; simpa using e4
              clear e4
              go_wp2_with fail
              refine (same_impl c c' (I1.out.keep HB2.out) (I2.out.keep HB2.out)).mono ?_
              rintro r w3 ⟨rfl, hb⟩
              have HB3 : Hid (Below w.heap.size w w3) := bTrans HB2.out hb
              have z0 := (X2.out.keep hb).c0
              rw [DQ.out]
              clear hb x0 y0
              go_wp2_with fail
              refine (copied_new (H1.out.keep HB3.out) HS.out).mono ?_
              rintro r w9 ⟨a9, c9, rfl, hp, hb⟩
              have P9 : Hid (Piece w.heap.size w9.heap.size w9 _ _ ∧ Below w.heap.size w w9) := ⟨hp.mono HB3.out.size (Nat.le_refl _), bTrans HB3.out hb⟩
              clear hp hb
              go_wp2
              go_ret2
              exact ⟨_, by rw [EC.out]; rfl, by rw [ES.out]; exact P9.out.1, P9.out.2⟩
            · have EC : Hid (fitC s d t e = 3) := by show _ = _; rw [key2.out, if_neg (by simpa using E3.out), if_pos e4]
              have ES : Hid (fitS s d t e = []) := by show _ = _; rw [fs.out, if_neg (by rw [EC.out]; decide)]
              have DQ : Hid ((decide (0 ≤ sizeV s) && decide (s = t)) = false) := by show _ = _; rw [SH.out]; simpa using e4
              clear e4
              go_wp2_with fail
              refine (same_impl c c' (I1.out.keep HB2.out) (I2.out.keep HB2.out)).mono ?_
              rintro r w3 ⟨rfl, hb⟩
              have HB3 : Hid (Below w.heap.size w w3) := bTrans HB2.out hb
              rw [DQ.out]
              clear hb
              go_wp2
              go_ret2
              exact ⟨_, by rw [EC.out]; rfl, by rw [ES.out]; exact Piece.nil _ _ _, HB3.out⟩
          · have n3 : ((s.length : Int) != (t.length : Int)) = true := by simp; omega
            have EC : Hid (fitC s d t e = 4) := by show _ = _; rw [key2.out, if_pos e3]
            have ES : Hid (fitS s d t e = []) := by show _ = _; rw [fs.out, if_neg (by rw [EC.out]; decide)]
            clear e3
            go_wp2
            go_ret2
            exact ⟨_, by rw [EC.out]; rfl, by rw [ES.out]; exact Piece.nil _ _ _, HB2.out⟩
    · have EC : Hid (fitC s d t e = 1) := fitC_no (by rintro ⟨_, h⟩; exact ho' h)
      have ES : Hid (fitS s d t e = []) := fitS_bad (by rw [EC.out]; decide)
      have HO' : Hid (arrOk t e = false) := by show _ = _; simpa using ho'
      clear ho ho'
      go_enter Try.func37, Try.ntmps37
      go_wp2_with fail
      refine (arrOk_impl (H.out.keep (bAlloc (bAlloc (Below.refl _ _) _) _)) HD.out).mono ?_
      rintro r w1 ⟨rfl, hb⟩
      have HB1 : Hid (Below w.heap.size w w1) := bTrans (bAlloc (bAlloc (Below.refl _ _) _) _) hb
      have Y1 : Hid (Box w1 (w.heap.size + 1) (.slice a' t.length c') (.slice b' e.length f') 26) := (box_new2 w _ _ _ _).keep hb
      have y0 := Y1.out.c0
      have y1 := Y1.out.c1
      clear hb
      rw [HO.out]
      go_wp2_with fail
      refine (arrOk_impl (K.out.keep HB1.out) HE.out).mono ?_
      rintro r w2 ⟨rfl, hb⟩
      have HB2 : Hid (Below w.heap.size w w2) := bTrans HB1.out hb
      clear hb
      rw [HO'.out]
      go_wp2
      go_ret2
      exact ⟨_, by rw [EC.out]; rfl, by rw [ES.out]; exact Piece.nil _ _ _, HB2.out⟩
  · have EC : Hid (fitC s d t e = 1) := fitC_no (by rintro ⟨h, _⟩; exact ho h)
    have ES : Hid (fitS s d t e = []) := fitS_bad (by rw [EC.out]; decide)
    have HO : Hid (arrOk s d = false) := by show _ = _; simpa using ho
    clear ho
    go_enter Try.func37, Try.ntmps37
    go_wp2_with fail
    refine (arrOk_impl (H.out.keep (bAlloc (bAlloc (Below.refl _ _) _) _)) HD.out).mono ?_
    rintro r w1 ⟨rfl, hb⟩
    have HB1 : Hid (Below w.heap.size w w1) := bTrans (bAlloc (bAlloc (Below.refl _ _) _) _) hb
    clear hb
    rw [HO.out]
    go_wp2
    go_ret2
    exact ⟨_, by rw [EC.out]; rfl, by rw [ES.out]; exact Piece.nil _ _ _, HB1.out⟩
end Go.Proofs.Ytcpgdhffemecbab
namespace Go.Proofs.Ytcpgdhffemecbab
open Go.RowKit
set_option linter.unusedVariables false
set_option linter.unusedSimpArgs false
theorem four_blocks (w : World) (A B C D : Obj) : ((((w.alloc A).alloc B).alloc C).alloc D).heap[w.heap.size]? = some A ∧ ((((w.alloc A).alloc B).alloc C).alloc D).heap[w.heap.size + 1]? = some B ∧ ((((w.alloc A).alloc B).alloc C).alloc D).heap[w.heap.size + 1 + 1]? = some C ∧ ((((w.alloc A).alloc B).alloc C).alloc D).heap[w.heap.size + 1 + 1 + 1]? = some D := by
  have e1 := heap_alloc_new w A
  have e2 := heap_alloc_new (w.alloc A) B
  have e3 := heap_alloc_new ((w.alloc A).alloc B) C
  have e4 := heap_alloc_new (((w.alloc A).alloc B).alloc C) D
  simp only [World.size_alloc] at e2 e3 e4
  refine ⟨?_, ?_, ?_, e4⟩
  · rw [heap_alloc_old _ _ (by simp only [World.size_alloc]; omega), heap_alloc_old _ _ (by simp only [World.size_alloc]; omega), heap_alloc_old _ _ (by simp only [World.size_alloc]; omega)]; exact e1
  · rw [heap_alloc_old _ _ (by simp only [World.size_alloc]; omega), heap_alloc_old _ _ (by simp only [World.size_alloc]; omega)]; exact e2
  · rw [heap_alloc_old _ _ (by simp only [World.size_alloc]; omega)]; exact e3
theorem twoImpl_bad {g : Int} {s d t e : List Int} (h : eachTwoC g s d t e ≠ 0) : eachTwoS g s d t e = [] ∧ eachTwoD g s d t e = [] := by
  unfold eachTwoS eachTwoD; rw [if_neg h, if_neg h]; exact ⟨rfl, rfl⟩
set_option maxRecDepth 20000 in
set_option maxHeartbeats 4000000 in
/-- EachTwo. -/
theorem eachTwo_impl {g : Int} {s d t e : List Int} {w : World} {v u : Value} (h : ArrI w v s d) (k : ArrI w u t e) (hs : s.length ≤ 1048576) (hd : d.length ≤ 1048576) (ht : t.length ≤ 1048576) (he : e.length ≤ 1048576) :
    Calls Try.prog 11 #[.int .i64 g, v, u] w fun r w' => ∃ v', r = .returned (.tuple #[v', .int .i64 (eachTwoC g s d t e)]) ∧ Arr w.heap.size w'.heap.size w' v' (eachTwoS g s d t e) (eachTwoD g s d t e) ∧ Below w.heap.size w w' := by
  have H : Hid (ArrI w v s d) := h
  have K : Hid (ArrI w u t e) := k
  obtain ⟨a, c, b, f, rfl, _, _, _, _⟩ := h
  obtain ⟨a', c', b', f', rfl, _, _, _, _⟩ := k
  have HFI : Hid (∀ W, Below w.heap.size w W → Calls Try.prog 37 #[.agg #[.slice a s.length c, .slice b d.length f], .agg #[.slice a' t.length c', .slice b' e.length f']] W fun r w' => ∃ v', r = .returned (.tuple #[v', .int .i64 (fitC s d t e)]) ∧ Piece W.heap.size w'.heap.size w' v' (fitS s d t e) ∧ Below W.heap.size W w') := fun W hb => fit_impl (H.out.keep hb) (K.out.keep hb) hs hd ht he
  have HL : Hid (s.length ≤ 1048576 ∧ d.length ≤ 1048576 ∧ t.length ≤ 1048576 ∧ e.length ≤ 1048576) := ⟨hs, hd, ht, he⟩
  clear hs hd ht he
  by_cases hg : sign2 g = true
  · have HG : Hid (sign2 g = true) := hg
    by_cases hf : fitC s d t e = 0
    · obtain ⟨ho, ho'⟩ := fitC_ok hf
      obtain ⟨F1, F2, F3⟩ := fit_size hf
      have EC : Hid (eachTwoC g s d t e = placesC (fun i => twoV g (numOf s d i) (numOf t e i)) (eachN s d t e)) := by show _ = _; unfold eachTwoC placesC; rw [if_pos ⟨ho, ho', hg⟩, if_pos hf]
      have ES : Hid (eachTwoS g s d t e = if placesC (fun i => twoV g (numOf s d i) (numOf t e i)) (eachN s d t e) = 0 then fitS s d t e else []) := by show _ = _; unfold eachTwoS; rw [EC.out]
      have ED : Hid (eachTwoD g s d t e = placesD (fun i => twoV g (numOf s d i) (numOf t e i)) (eachN s d t e)) := by show _ = _; unfold eachTwoD placesD; rw [EC.out]
      have HFL : Hid (∀ (W : World) (q o B E : Nat) (sa : Option Addr) (sc : Nat), Below w.heap.size w W → W.cell? ⟨q, 0, none⟩ = some (.int .i64 g) → q < W.heap.size → W.heap[o]? = some (.cells #[.slice a s.length c, .slice b d.length f, .slice a' t.length c', .slice b' e.length f'] 26 (0, 0)) → Piece B E W (.slice sa (fitS s d t e).length sc) (fitS s d t e) → B ≤ E → E ≤ W.heap.size →
          Calls Try.prog 40 #[.slice sa (fitS s d t e).length sc, .func (.func 38) #[] #[.pointer (some ⟨q, 0, none⟩)], .slice (some ⟨o, 0, none⟩) 2 2] W fun r w' => ∃ v', r = .returned (.tuple #[v', .int .i64 (eachTwoC g s d t e)]) ∧ Arr B w'.heap.size w' v' (eachTwoS g s d t e) (eachTwoD g s d t e) ∧ Below W.heap.size W w') := by
        intro W q o B E sa sc hb hq hqs ho4 hp hBE hEW
        rw [EC.out, ES.out, ED.out]
        refine filled_impl (F := [s, d, t, e]) (enters_of Try.func38 (by kernel_rfl) rfl) (arrs_two ho4 (H.out.keep hb) (K.out.keep hb)) (by decide) F2 ?_ ?_ ?_ hp hBE hEW F1.symm
        · intro j
          obtain ⟨l1, l2, l3, l4⟩ := HL.out
          match j with
          | 0 => exact l1
          | 1 => exact l2
          | 2 => exact l3
          | 3 => exact l4
          | j + 4 => simp
        · intro i hi
          have z1 := arrOk_size ho
          have z2 := arrOk_size ho'
          have k1 : s = [] → d.length = 1 := by rintro rfl; rw [sizeV_0'] at z1; omega
          have k2 : t = [] → e.length = 1 := by rintro rfl; rw [sizeV_0'] at z2; omega
          match i, hi with
          | 0, _ => exact ⟨fun q => by have := k1 q; show 0 < d.length; omega, fun q => by
              show eachN s d t e ≤ d.length
              apply Classical.byContradiction
              intro hh
              have := (F3 d.length (by omega)).2.1 q
              omega⟩
          | 1, _ => exact ⟨fun q => by have := k2 q; show 0 < e.length; omega, fun q => by
              show eachN s d t e ≤ e.length
              apply Classical.byContradiction
              intro hh
              have := (F3 e.length (by omega)).2.2.2 q
              omega⟩
        · intro W' A k hk hb' hi
          exact does2_impl hi ((hb'.cell (p := ⟨q, 0, none⟩) hqs).trans hq)
      have HF0 : Hid (fitC s d t e = 0) := hf
      clear hg hf ho ho' F1 F2 F3 EC ES ED
      generalize eachTwoC g s d t e = C at *
      generalize eachTwoS g s d t e = S at *
      generalize eachTwoD g s d t e = D at *
      generalize fitS s d t e = Z at *
      go_enter Try.func11, Try.ntmps11
      go_wp2_with fail
      refine (knownTwo_impl g _).mono ?_
      rintro r w1 ⟨rfl, hb⟩
      have HB1 : Hid (Below w.heap.size w w1) := bTrans (bAlloc (bAlloc (bAlloc (bAlloc (Below.refl _ _) _) _) _) _) hb
      have q1 := four_blocks w (.cells #[.int .i64 g] 3) (.cells #[.slice a s.length c, .slice b d.length f] 26) (.cells #[.slice a' t.length c', .slice b' e.length f'] 26) (.cells #[.slice none 0 0, .slice none 0 0] 26)
      have G1 : Hid (w1.heap[w.heap.size]? = some (.cells #[.int .i64 g] 3)) := by show _ = _; rw [hb.block _ (lt_of_heapA q1.1)]; exact q1.1
      have X1 : Hid (Box w1 (w.heap.size + 1) (.slice a s.length c) (.slice b d.length f) 26) := Box.keep q1.2.1 hb
      have Y1 : Hid (Box w1 (w.heap.size + 1 + 1) (.slice a' t.length c') (.slice b' e.length f') 26) := Box.keep q1.2.2.1 hb
      have R1 : Hid (Box w1 (w.heap.size + 1 + 1 + 1) (.slice none 0 0) (.slice none 0 0) 26) := Box.keep q1.2.2.2 hb
      clear hb q1
      rw [HG.out]
      have x0 := X1.out.c0
      have x1 := X1.out.c1
      have y0 := Y1.out.c0
      have y1 := Y1.out.c1
      go_wp2_with fail
      refine (HFI.out _ HB1.out).mono ?_
      rintro r w2 ⟨v2, rfl, hp, hb⟩
      obtain ⟨a2, c2, rfl, _⟩ := hp.ints
      have HB2 : Hid (Below w.heap.size w w2) := bTrans HB1.out hb
      have P2 : Hid (Piece w1.heap.size w2.heap.size w2 (.slice a2 Z.length c2) Z) := hp
      have G2 : Hid (w2.heap[w.heap.size]? = some (.cells #[.int .i64 g] 3)) := by show _ = _; rw [hb.block _ (lt_of_heapA G1.out)]; exact G1.out
      have X2 : Hid (Box w2 (w.heap.size + 1) (.slice a s.length c) (.slice b d.length f) 26) := X1.out.keep hb
      have Y2 : Hid (Box w2 (w.heap.size + 1 + 1) (.slice a' t.length c') (.slice b' e.length f') 26) := Y1.out.keep hb
      have R2 : Hid (Box w2 (w.heap.size + 1 + 1 + 1) (.slice none 0 0) (.slice none 0 0) 26) := R1.out.keep hb
      have L1 : Hid (w.heap.size + 1 + 1 + 1 < w1.heap.size ∧ w1.heap.size ≤ w2.heap.size) := ⟨R1.out.lt, hb.size⟩
      rw [HF0.out]
      clear hb hp x0 x1 y0 y1 G1 X1 Y1 R1
      have x0 := X2.out.c0
      have x1 := X2.out.c1
      have y0 := Y2.out.c0
      have y1 := Y2.out.c1
      go_wp2_with fail
      refine (HFL.out _ w.heap.size w2.heap.size w1.heap.size w2.heap.size a2 c2 (bAlloc HB2.out _) (((bAlloc (Below.refl w2.heap.size w2) _).cell (p := ⟨w.heap.size, 0, none⟩) (lt_of_heapA G2.out)).trans (cell_at G2.out rfl)) (Nat.lt_of_lt_of_le (lt_of_heapA G2.out) (bAlloc (Below.refl w2.heap.size w2) _).size) (heap_alloc_new _ _) (P2.out.keep (bAlloc (Below.refl _ _) _)) L1.out.2 (bAlloc (Below.refl w2.heap.size w2) _).size).mono ?_
      rintro r w3 ⟨v3, rfl, ha, hb⟩
      obtain ⟨a3, c3, b3, e3, rfl, _, _, _, _⟩ := ha.arrI
      have HA3 : Hid (Arr w1.heap.size w3.heap.size w3 (.agg #[.slice a3 S.length c3, .slice b3 D.length e3]) S D) := ha
      have HB3 : Hid (Below w.heap.size w w3) := bTrans (bAlloc HB2.out _) hb
      have R3 : Hid (Box w3 (w.heap.size + 1 + 1 + 1) (.slice none 0 0) (.slice none 0 0) 26) := (R2.out.keep (bAlloc (Below.refl _ _) _)).keep hb
      clear ha hb x0 x1 y0 y1
      have r0 := R3.out.c0
      have r1 := R3.out.c1
      have f0 : w3.frozen? ⟨w.heap.size + 1 + 1 + 1, 0, none⟩ = false := free_at R3.out 0
      have f1 : w3.frozen? ⟨w.heap.size + 1 + 1 + 1, 1, none⟩ = false := free_at R3.out 1
      have HR : Hid (((w3.setCell ⟨w.heap.size + 1 + 1 + 1, 0, none⟩ (.slice a3 S.length c3)).setCell ⟨w.heap.size + 1 + 1 + 1, 1, none⟩ (.slice b3 D.length e3)).heap[w.heap.size + 1 + 1 + 1]? = some (.cells #[.slice a3 S.length c3, .slice b3 D.length e3] 26 (0, 0))) := arr_stored R3.out
      go_wp2
      refine bodyPost_ret (results_arr_tmp Try.results11 _ _ (w.heap.size + 1 + 1 + 1) _ _ rfl HR.out) rfl ?_
      refine ⟨_, rfl, ?_, below_setCell (below_setCell HB3.out (by omega) _ _) (by omega) _ _⟩
      have L := L1.out.1
      exact ((HA3.out.setCell L _ _).setCell L _ _).mono (by omega) (by simp only [size_setCell]; omega)
    · have EC : Hid (eachTwoC g s d t e = fitC s d t e) := by
        show _ = _
        unfold eachTwoC
        by_cases ho : arrOk s d = true ∧ arrOk t e = true
        · rw [if_pos ⟨ho.1, ho.2, hg⟩, if_neg hf]
        · rw [if_neg (fun q => ho ⟨q.1, q.2.1⟩), fitC_no ho]
      obtain ⟨es, ed⟩ := twoImpl_bad (g := g) (s := s) (d := d) (t := t) (e := e) (by rw [EC.out]; exact hf)
      rw [EC.out, es, ed]
      clear EC es ed hg
      generalize fitC s d t e = C at *
      generalize fitS s d t e = Z at *
      have hne : (C != 0) = true := by simpa using hf
      clear hf
      go_enter Try.func11, Try.ntmps11
      go_wp2_with fail
      refine (knownTwo_impl g _).mono ?_
      rintro r w1 ⟨rfl, hb⟩
      have HB1 : Hid (Below w.heap.size w w1) := bTrans (bAlloc (bAlloc (bAlloc (bAlloc (Below.refl _ _) _) _) _) _) hb
      have q1 := four_blocks w (.cells #[.int .i64 g] 3) (.cells #[.slice a s.length c, .slice b d.length f] 26) (.cells #[.slice a' t.length c', .slice b' e.length f'] 26) (.cells #[.slice none 0 0, .slice none 0 0] 26)
      have G1 : Hid (w1.heap[w.heap.size]? = some (.cells #[.int .i64 g] 3)) := by show _ = _; rw [hb.block _ (lt_of_heapA q1.1)]; exact q1.1
      have X1 : Hid (Box w1 (w.heap.size + 1) (.slice a s.length c) (.slice b d.length f) 26) := Box.keep q1.2.1 hb
      have Y1 : Hid (Box w1 (w.heap.size + 1 + 1) (.slice a' t.length c') (.slice b' e.length f') 26) := Box.keep q1.2.2.1 hb
      have R1 : Hid (Box w1 (w.heap.size + 1 + 1 + 1) (.slice none 0 0) (.slice none 0 0) 26) := Box.keep q1.2.2.2 hb
      clear hb q1
      rw [HG.out]
      have x0 := X1.out.c0
      have x1 := X1.out.c1
      have y0 := Y1.out.c0
      have y1 := Y1.out.c1
      go_wp2_with fail
      refine (HFI.out _ HB1.out).mono ?_
      rintro r w2 ⟨v2, rfl, hp, hb⟩
      obtain ⟨a2, c2, rfl, _⟩ := hp.ints
      have HB2 : Hid (Below w.heap.size w w2) := bTrans HB1.out hb
      have R2 : Hid (Box w2 (w.heap.size + 1 + 1 + 1) (.slice none 0 0) (.slice none 0 0) 26) := R1.out.keep hb
      clear hb hp x0 x1 y0 y1 G1 X1 Y1 R1
      have r0 := R2.out.c0
      have r1 := R2.out.c1
      have f0 : w2.frozen? ⟨w.heap.size + 1 + 1 + 1, 0, none⟩ = false := free_at R2.out 0
      have f1 : w2.frozen? ⟨w.heap.size + 1 + 1 + 1, 1, none⟩ = false := free_at R2.out 1
      have HR : Hid (((w2.setCell ⟨w.heap.size + 1 + 1 + 1, 0, none⟩ (.slice none 0 0)).setCell ⟨w.heap.size + 1 + 1 + 1, 1, none⟩ (.slice none 0 0)).heap[w.heap.size + 1 + 1 + 1]? = some (.cells #[.slice none 0 0, .slice none 0 0] 26 (0, 0))) := arr_stored R2.out
      go_wp2
      refine bodyPost_ret (results_arr_tmp Try.results11 _ _ (w.heap.size + 1 + 1 + 1) _ _ rfl HR.out) rfl ?_
      exact ⟨_, rfl, arr_zero _ _ _, below_setCell (below_setCell HB2.out (by omega) _ _) (by omega) _ _⟩
  · have hg' : sign2 g = false := by simpa using hg
    have HG : Hid (sign2 g = false) := hg'
    have EC : Hid (eachTwoC g s d t e = 1) := by
      show _ = _
      unfold eachTwoC
      rw [if_neg (fun q => hg q.2.2)]
    obtain ⟨es, ed⟩ := twoImpl_bad (g := g) (s := s) (d := d) (t := t) (e := e) (by rw [EC.out]; decide)
    rw [EC.out, es, ed]
    clear EC es ed hg hg' HFI
    go_enter Try.func11, Try.ntmps11
    go_wp2_with fail
    refine (knownTwo_impl g _).mono ?_
    rintro r w1 ⟨rfl, hb⟩
    have HB1 : Hid (Below w.heap.size w w1) := bTrans (bAlloc (bAlloc (bAlloc (bAlloc (Below.refl _ _) _) _) _) _) hb
    have q1 := four_blocks w (.cells #[.int .i64 g] 3) (.cells #[.slice a s.length c, .slice b d.length f] 26) (.cells #[.slice a' t.length c', .slice b' e.length f'] 26) (.cells #[.slice none 0 0, .slice none 0 0] 26)
    have G1 : Hid (w1.heap[w.heap.size]? = some (.cells #[.int .i64 g] 3)) := by show _ = _; rw [hb.block _ (lt_of_heapA q1.1)]; exact q1.1
    have X1 : Hid (Box w1 (w.heap.size + 1) (.slice a s.length c) (.slice b d.length f) 26) := Box.keep q1.2.1 hb
    have Y1 : Hid (Box w1 (w.heap.size + 1 + 1) (.slice a' t.length c') (.slice b' e.length f') 26) := Box.keep q1.2.2.1 hb
    have R1 : Hid (Box w1 (w.heap.size + 1 + 1 + 1) (.slice none 0 0) (.slice none 0 0) 26) := Box.keep q1.2.2.2 hb
    clear hb q1
    rw [HG.out]
    have r0 := R1.out.c0
    have r1 := R1.out.c1
    have f0 : w1.frozen? ⟨w.heap.size + 1 + 1 + 1, 0, none⟩ = false := free_at R1.out 0
    have f1 : w1.frozen? ⟨w.heap.size + 1 + 1 + 1, 1, none⟩ = false := free_at R1.out 1
    have HR : Hid (((w1.setCell ⟨w.heap.size + 1 + 1 + 1, 0, none⟩ (.slice none 0 0)).setCell ⟨w.heap.size + 1 + 1 + 1, 1, none⟩ (.slice none 0 0)).heap[w.heap.size + 1 + 1 + 1]? = some (.cells #[.slice none 0 0, .slice none 0 0] 26 (0, 0))) := arr_stored R1.out
    go_wp2
    refine bodyPost_ret (results_arr_tmp Try.results11 _ _ (w.heap.size + 1 + 1 + 1) _ _ rfl HR.out) rfl ?_
    exact ⟨_, rfl, arr_zero _ _ _, below_setCell (below_setCell HB1.out (by omega) _ _) (by omega) _ _⟩
end Go.Proofs.Ytcpgdhffemecbab
