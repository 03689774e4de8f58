/-
  Several walks, one behind the other: ImplShape, SpecArr2, ImplArr3, ImplRows1, InReg, ShowK, WideI, ShowL, ShowP, ShowN, WidP.
-/
import Derived.Test.YtcaidhmolnnikaaDoorImplPlace
import Derived.Test.YtcaidhmolnnikaaDoorSpecArr
import Derived.Test.YtcaidhmolnnikaaDoorAppend
import Derived.OwnWalk
import Derived.Laws.ResultCell
import Derived.Test.YtcaidhmolnnikaaDoorImplArr1
import Derived.Test.YtcaidhmolnnikaaDoorImplArr2
import Derived.RangeFuncNested
import Derived.RangeFuncBound
import Derived.RangeFuncCalls
import Derived.RangeFuncLeaves
import Derived.Shelf.Abstract
import Derived.Shelf.RegionOpen
import Derived.WalkKit
import Derived.OwnWalkIn
import Derived.TacticsInMore
import Derived.LoopNIn
import Derived.LoopIn
import Derived.Test.YtcaidhmolnnikaaDoorRowsI
import Derived.Test.YtcaidhmolnnikaaDoorLaw3
import Derived.Deep.RegionHeld3
import Derived.Test.YtcaidhmolnnikaaDoorShowJ
import Derived.Test.YtcaidhmolnnikaaDoorWideS
import Derived.Test.YtcaidhmolnnikaaDoorDigI
import Derived.Test.YtcaidhmolnnikaaDoorShowM
import Derived.Test.YtcaidhmolnnikaaDoorRowL
namespace Go.Proofs.YtcaidhmolnnikaaDoor
open Go.RowKit
set_option linter.unusedVariables false
theorem sizeV_0 : sizeV [] = 1 := by simp [sizeV, prodV]
theorem sizeV_1 (x : Int) : sizeV [x] = if 0 ≤ x ∧ x ≤ 300 then (if 300 < x then -1 else x) else -1 := by simp [sizeV, dimOk, prodV]
theorem sizeV_2 (x y : Int) : sizeV [x, y] = if (0 ≤ x ∧ x ≤ 300) ∧ 0 ≤ y ∧ y ≤ 300 then (if 300 < x * y then -1 else x * y) else -1 := by simp [sizeV, dimOk, prodV]
theorem sizeV_3 (x y z : Int) : sizeV [x, y, z] = if (0 ≤ x ∧ x ≤ 300) ∧ (0 ≤ y ∧ y ≤ 300) ∧ 0 ≤ z ∧ z ≤ 300 then (if 300 < x * y * z then -1 else x * y * z) else -1 := by simp [sizeV, dimOk, prodV]
theorem dim3 (x : Int) : x < 0 ∨ (0 ≤ x ∧ 300 < x) ∨ (0 ≤ x ∧ x ≤ 300) := by omega
/-- The numbers of a shape by value. -/
def Ext (l : List Int) (n : Nat) (x y z : Int) : Prop := n = l.length ∧ x = l.getD 0 0 ∧ y = l.getD 1 0 ∧ z = l.getD 2 0
theorem ext_bad {l : List Int} {a : Option Addr} {w : World} {c : Nat} (hs : sizeV l < 0)
    (h : Calls Tryd.prog 88 #[.slice a l.length c] w fun e w' => e = .returned (.tuple #[.agg #[.int .i64 0, .int .i64 0, .int .i64 0, .int .i64 0], .bool false]) ∧ Below w.heap.size w w') :
    Calls Tryd.prog 88 #[.slice a l.length c] w fun e w' => ∃ (n : Nat) (x y z : Int), e = .returned (.tuple #[.agg #[.int .i64 n, .int .i64 x, .int .i64 y, .int .i64 z], .bool (decide (0 ≤ sizeV l))]) ∧ (0 ≤ sizeV l → Ext l n x y z) ∧ Below w.heap.size w w' := by
  refine h.mono ?_
  rintro e w' ⟨rfl, hb⟩
  exact ⟨0, 0, 0, 0, by rw [show decide (0 ≤ sizeV l) = false by simp; omega]; rfl, fun h => by omega, hb⟩
theorem ext_good {l : List Int} {a : Option Addr} {w : World} {c n : Nat} {x y z : Int} (hs : 0 ≤ sizeV l) (he : Ext l n x y z)
    (h : Calls Tryd.prog 88 #[.slice a l.length c] w fun e w' => e = .returned (.tuple #[.agg #[.int .i64 n, .int .i64 x, .int .i64 y, .int .i64 z], .bool true]) ∧ Below w.heap.size w w') :
    Calls Tryd.prog 88 #[.slice a l.length c] w fun e w' => ∃ (n : Nat) (x y z : Int), e = .returned (.tuple #[.agg #[.int .i64 n, .int .i64 x, .int .i64 y, .int .i64 z], .bool (decide (0 ≤ sizeV l))]) ∧ (0 ≤ sizeV l → Ext l n x y z) ∧ Below w.heap.size w w' := by
  refine h.mono ?_
  rintro e w' ⟨rfl, hb⟩
  exact ⟨n, x, y, z, by rw [show decide (0 ≤ sizeV l) = true by simpa using hs], fun _ => he, hb⟩
/-- A list as a shape by value. -/
theorem ext_impl {l : List Int} {a : Option Addr} {w : World} (c : Nat) (h1 : Ints w a l) :
    Calls Tryd.prog 88 #[.slice a l.length c] w fun e w' => ∃ (n : Nat) (x y z : Int), e = .returned (.tuple #[.agg #[.int .i64 n, .int .i64 x, .int .i64 y, .int .i64 z], .bool (decide (0 ≤ sizeV l))]) ∧ (0 ≤ sizeV l → Ext l n x y z) ∧ Below w.heap.size w w' := by
  by_cases hl : 3 < l.length
  · exact ext_bad (by unfold sizeV; rw [if_pos hl]; decide) (ext_long l a c w hl)
  · rcases len3 (by omega : l.length ≤ 3) with rfl | ⟨x, rfl⟩ | ⟨x, y, rfl⟩ | ⟨x, y, z, rfl⟩
    · exact ext_good (n := 0) (x := 0) (y := 0) (z := 0) (by rw [sizeV_0]; decide) ⟨rfl, rfl, rfl, rfl⟩ (ext_0_ok a c w h1)
    · rcases dim3 x with hb | ⟨hb0, hb⟩ | ⟨x0, x1⟩
      · exact ext_bad (by rw [sizeV_1, if_neg (by omega)]; decide) (ext_1_neg0 x a c w h1  hb)
      · exact ext_bad (by rw [sizeV_1, if_neg (by omega)]; decide) (ext_1_great0 x a c w h1  hb0 hb)
      exact ext_good (n := 1) (x := x) (y := 0) (z := 0) (by rw [sizeV_1, if_pos (by omega), if_neg (by omega)]; exact x0) ⟨rfl, rfl, rfl, rfl⟩ (ext_1_ok x a c w h1 x0 x1)
    · rcases dim3 x with hb | ⟨hb0, hb⟩ | ⟨x0, x1⟩
      · exact ext_bad (by rw [sizeV_2, if_neg (by omega)]; decide) (ext_2_neg0 x y a c w h1  hb)
      · exact ext_bad (by rw [sizeV_2, if_neg (by omega)]; decide) (ext_2_great0 x y a c w h1  hb0 hb)
      rcases dim3 y with hb | ⟨hb0, hb⟩ | ⟨y0, y1⟩
      · exact ext_bad (by rw [sizeV_2, if_neg (by omega)]; decide) (ext_2_neg1 x y a c w h1 x0 x1 hb)
      · exact ext_bad (by rw [sizeV_2, if_neg (by omega)]; decide) (ext_2_great1 x y a c w h1 x0 x1 hb0 hb)
      by_cases hp : 300 < x * y
      · exact ext_bad (by rw [sizeV_2, if_pos (by omega), if_pos hp]; decide) (ext_2_much x y a c w h1 x0 x1 y0 y1 hp)
      exact ext_good (n := 2) (x := x) (y := y) (z := 0) (by rw [sizeV_2, if_pos (by omega), if_neg (by omega)]; exact Int.mul_nonneg x0 y0) ⟨rfl, rfl, rfl, rfl⟩ (ext_2_ok x y a c w h1 x0 x1 y0 y1 (by omega))
    · rcases dim3 x with hb | ⟨hb0, hb⟩ | ⟨x0, x1⟩
      · exact ext_bad (by rw [sizeV_3, if_neg (by omega)]; decide) (ext_3_neg0 x y z a c w h1  hb)
      · exact ext_bad (by rw [sizeV_3, if_neg (by omega)]; decide) (ext_3_great0 x y z a c w h1  hb0 hb)
      rcases dim3 y with hb | ⟨hb0, hb⟩ | ⟨y0, y1⟩
      · exact ext_bad (by rw [sizeV_3, if_neg (by omega)]; decide) (ext_3_neg1 x y z a c w h1 x0 x1 hb)
      · exact ext_bad (by rw [sizeV_3, if_neg (by omega)]; decide) (ext_3_great1 x y z a c w h1 x0 x1 hb0 hb)
      rcases dim3 z with hb | ⟨hb0, hb⟩ | ⟨z0, z1⟩
      · exact ext_bad (by rw [sizeV_3, if_neg (by omega)]; decide) (ext_3_neg2 x y z a c w h1 x0 x1 y0 y1 hb)
      · exact ext_bad (by rw [sizeV_3, if_neg (by omega)]; decide) (ext_3_great2 x y z a c w h1 x0 x1 y0 y1 hb0 hb)
      by_cases hp : 300 < x * y * z
      · exact ext_bad (by rw [sizeV_3, if_pos (by omega), if_pos hp]; decide) (ext_3_much x y z a c w h1 x0 x1 y0 y1 z0 z1 hp)
      exact ext_good (n := 3) (x := x) (y := y) (z := z) (by rw [sizeV_3, if_pos (by omega), if_neg (by omega)]; exact Int.mul_nonneg (Int.mul_nonneg x0 y0) z0) ⟨rfl, rfl, rfl, rfl⟩ (ext_3_ok x y z a c w h1 x0 x1 y0 y1 z0 z1 (by omega))
/-- Its size. -/
theorem size_ext {l : List Int} {n : Nat} {x y z : Int} (hs : 0 ≤ sizeV l) (he : Ext l n x y z) (w : World) :
    Calls Tryd.prog 89 #[.agg #[.int .i64 n, .int .i64 x, .int .i64 y, .int .i64 z]] w fun e w' => e = .returned (.int .i64 (sizeV l)) ∧ ∃ o, w' = w.alloc o := by
  obtain ⟨rfl, rfl, rfl, rfl⟩ := he
  obtain ⟨k1, k2, k3, k4⟩ := sizeV_ok hs
  rw [k4]
  rcases len3 k1 with rfl | ⟨x, rfl⟩ | ⟨x, y, rfl⟩ | ⟨x, y, z, rfl⟩
  · exact (size_0_ext w).mono fun e w' h => ⟨h.1, _, h.2⟩
  · simp only [List.all_cons, List.all_nil, Bool.and_true] at k2
    have dx := dimOk_bd k2
    rw [prod1]
    exact (size_1_ext x w dx.1 dx.2).mono fun e w' h => ⟨h.1, _, h.2⟩
  · simp only [List.all_cons, List.all_nil, Bool.and_true, Bool.and_eq_true] at k2
    have dx := dimOk_bd k2.1
    have dy := dimOk_bd k2.2
    rw [prod2]
    exact (size_2_ext x y w dx.1 dx.2 dy.1 dy.2).mono fun e w' h => ⟨h.1, _, h.2⟩
  · simp only [List.all_cons, List.all_nil, Bool.and_true, Bool.and_eq_true] at k2
    have dx := dimOk_bd k2.1
    have dy := dimOk_bd k2.2.1
    have dz := dimOk_bd k2.2.2
    rw [prod3]
    exact (size_3_ext x y z w dx.1 dx.2 dy.1 dy.2 dz.1 dz.2).mono fun e w' h => ⟨h.1, _, h.2⟩
theorem sizeV_neg {l : List Int} (h : ¬ 0 ≤ sizeV l) : sizeV l = -1 := by have := sizeV_bd l; omega
set_option maxRecDepth 20000 in
set_option maxHeartbeats 1000000 in
/-- SizeOf. -/
theorem size_impl {l : List Int} {a : Option Addr} {w : World} (c : Nat) (h1 : Ints w a l) :
    Calls Tryd.prog 65 #[.slice a l.length c] w fun e w' => e = .returned (.int .i64 (sizeV l)) ∧ Below w.heap.size w w' := by
  have H1 : Hid (Ints w a l) := h1
  clear h1
  by_cases hs : 0 ≤ sizeV l
  · have hs' : decide (0 ≤ sizeV l) = true := by simpa using hs
    have HS : Hid (0 ≤ sizeV l) := hs
    clear hs
    go_enter Tryd.func65, Tryd.ntmps65
    go_wp2_with fail
    refine (ext_impl _ H1.out).mono ?_
    rintro e w1 ⟨n, x, y, z, rfl, he, hb⟩
    have HE : Hid (Ext l n x y z) := he HS.out
    have HB : Hid (Below w.heap.size w w1) := hb
    clear he hb
    go_wp2_with fail
    refine (size_ext HS.out HE.out _).mono ?_
    rintro e w2 ⟨rfl, o, hw⟩
    subst w2
    go_wp2
    go_ret
    exact ⟨rfl, bAlloc (bAlloc HB.out _) _⟩
  · have hs' : decide (0 ≤ sizeV l) = false := by simpa using hs
    have HV : Hid (sizeV l = -1) := sizeV_neg hs
    clear hs
    go_enter Tryd.func65, Tryd.ntmps65
    go_wp2_with fail
    refine (ext_impl _ H1.out).mono ?_
    rintro e w1 ⟨n, x, y, z, rfl, he, hb⟩
    have HB : Hid (Below w.heap.size w w1) := hb
    clear he hb
    go_wp2
    go_ret
    exact ⟨ret_num HV.out.symm, bAlloc HB.out _⟩
theorem newInts_nil (B : Nat) (w : World) : NewInts B w (.slice none 0 0) [] := ⟨rfl, .inl ⟨rfl, rfl⟩⟩
end Go.Proofs.YtcaidhmolnnikaaDoor
namespace Go.Proofs.YtcaidhmolnnikaaDoor
open Go.RowKit
set_option linter.unusedVariables false
set_option linter.unusedSimpArgs false
/-- What VectorOf answers. -/
def vecOk (l : List Int) : Bool := arrOk [(l.length : Int)] l
end Go.Proofs.YtcaidhmolnnikaaDoor
namespace Go.Proofs.YtcaidhmolnnikaaDoor
open Go.RowKit
set_option linter.unusedVariables false
set_option linter.unusedSimpArgs false
set_option maxRecDepth 20000 in
set_option maxHeartbeats 4000000 in
/-- ArrayOk. -/
theorem arrOk_impl {s d : List Int} {w : World} {v : Value} (h : ArrI w v s d) (hd : d.length ≤ 1048576) :
    Calls Tryd.prog 33 #[v] w fun e w' => e = .returned (.bool (arrOk s d)) ∧ Below w.heap.size w w' := by
  obtain ⟨a, c, b, e, rfl, h1, h2, _, _⟩ := h
  have H1 : Hid (Ints w a s) := h1
  have H2 : Hid (Ints w b d) := h2
  have HD : Hid (d.length ≤ 1048576) := hd
  clear h1 h2 hd
  have HSZ : Hid (∀ W, Ints W a s → Calls Tryd.prog 65 #[.slice a s.length c] W fun e w' => e = .returned (.int .i64 (sizeV s)) ∧ Below W.heap.size W w') := fun W h => size_impl c h
  have HAR : Hid (∀ W, Ints W b d → Calls Tryd.prog 41 #[.slice b d.length e] W fun e w' => e = .returned (.bool (d.all ok)) ∧ w' = W) := fun W h => allRight_impl e h HD.out
  by_cases hs : sizeV s = d.length
  · have HV : Hid (arrOk s d = d.all ok) := by show _ = _; simp [arrOk, hs]
    rw [hs] at HSZ
    clear hs
    generalize d.all ok = q at *
    go_enter Tryd.func33, Tryd.ntmps33
    go_wp2
    generalize hW : w.alloc (.cells #[.slice a s.length c, .slice b d.length e] 27) = W
    have HB : Hid (Below w.heap.size w W) := by rw [← hW]; exact bAlloc (Below.refl _ _) _
    have X : Hid (Box W w.heap.size (.slice a s.length c) (.slice b d.length e) 27) := by rw [← hW]; exact box_new w _ _ _
    have x0 := X.out.c0
    have x1 := X.out.c1
    clear hW
    go_region_held3 (fun w' => w'.cell? ⟨w.heap.size, 0, none⟩ = some (.slice a s.length c) ∧ w'.cell? ⟨w.heap.size, 1, none⟩ = some (.slice b d.length e))
      (first | exact ⟨z0, z1⟩ | exact ⟨y0, y1⟩ | exact ⟨x0, x1⟩)
      (first
        | (go_at_call 65; refine (HSZ.out _ (H1.out.keep (bTrans HB.out ((Below.refl W.heap.size W).drew)))).mono ?_; rintro r w1 ⟨rfl, hb⟩; have HB1 : Hid (Below W.heap.size W w1) := bTrans ((Below.refl W.heap.size W).drew) hb; have y0 := (X.out.keep HB1.out).c0; have y1 := (X.out.keep HB1.out).c1; clear hb)
        | (go_at_call 41; refine (HAR.out _ (H2.out.keep (bTrans HB.out HB1.out))).mono ?_; rintro r w2 ⟨rfl, hw⟩; subst w2))
    go_wp2
    go_ret
    exact ⟨by rw [HV.out]; rfl, bTrans HB.out HB1.out⟩
  · have HV : Hid (arrOk s d = false) := by show _ = _; simp [arrOk, hs]
    have hne : ((d.length : Int) == sizeV s) = false := by simp; exact fun e => hs e.symm
    generalize sizeV s = z at *
    clear hs
    go_enter Tryd.func33, Tryd.ntmps33
    go_wp2
    generalize hW : w.alloc (.cells #[.slice a s.length c, .slice b d.length e] 27) = W
    have HB : Hid (Below w.heap.size w W) := by rw [← hW]; exact bAlloc (Below.refl _ _) _
    have X : Hid (Box W w.heap.size (.slice a s.length c) (.slice b d.length e) 27) := by rw [← hW]; exact box_new w _ _ _
    have x0 := X.out.c0
    have x1 := X.out.c1
    clear hW
    first
      | go_region_with (go_at_call 65; refine (HSZ.out _ (H1.out.keep (bTrans HB.out ((Below.refl W.heap.size W).drew)))).mono ?_; rintro r w1 ⟨rfl, hb⟩; have HB1 : Hid (Below W.heap.size W w1) := bTrans ((Below.refl W.heap.size W).drew) hb; have y0 := (X.out.keep HB1.out).c0; have y1 := (X.out.keep HB1.out).c1; clear hb)
      | fail "no"
    all_goals
      go_wp2
      go_ret
      exact ⟨by rw [HV.out]; rfl, bTrans HB.out HB1.out⟩
theorem arrOk_one (x : Int) : arrOk [] [x] = ok x := by simp [arrOk, sizeV_0']
end Go.Proofs.YtcaidhmolnnikaaDoor
namespace Go.Proofs.YtcaidhmolnnikaaDoor
open Go.RowKit Go.Shelf
set_option linter.unusedVariables false
set_option linter.unusedSimpArgs false
attribute [local go_sem] Oper.semAt_some
theorem wrapJ {a : Int} (h0 : 0 ≤ a) (h1 : a ≤ 1099511627776) : IntKind.i64.wrap a = a := by rw [IntKind.wrap_i64]; omega
/-- The first k numbers. -/
def upto (cnt k : Nat) : List (Fin cnt) := (List.finRange cnt).take k
theorem upto_succ {cnt k : Nat} (h : k < cnt) : upto cnt (k + 1) = upto cnt k ++ [⟨k, h⟩] := by
  unfold upto
  rw [List.take_succ_eq_append_getElem (by simpa using h)]
  simp
theorem upto_length {cnt k : Nat} (h : k ≤ cnt) : (upto cnt k).length = k := by simp [upto, h]
theorem upto_all (cnt : Nat) : upto cnt cnt = List.finRange cnt := by unfold upto; exact List.take_of_length_le (by simp)
/-- What a round keeps: the box of the array that is cut. -/
def KeepsBox (q : Nat) (W W' : World) : Prop := W'.heap[q]? = W.heap[q]?
theorem keepsBox_t {q : Nat} {A B C : World} (h : KeepsBox q A B) (k : KeepsBox q B C) : KeepsBox q A C := Eq.trans k h
theorem keepsBox_b {q : Nat} {w : World} (hq : q < w.heap.size) (W : World) (l : Nat) (o o' : Obj) (hl : w.heap.size ≤ l) (_ : W.heap[l]? = some o) (_ : o.isCells = false) (_ : o.isWalk = false) : KeepsBox q W (W.putObj l o') :=
  World.putObj_heap_other (by omega)
set_option maxRecDepth 100000 in
set_option maxHeartbeats 4000000 in
theorem cut_in (n l q cnt N r b1 o1 c dl e ct : Nat) (tl b : Option Addr) (ad : Nat → Option Addr) (cd : Nat → Nat) (hn : 1 ≤ n) (hc : cnt ≤ 300) (hN : N ≤ 300) (hr : r ≤ 3)
    (hq : 0 < cnt → (dl : Int) / (cnt : Int) = N)
    (hs1 : ∀ W, (Instr.slice 22 (.slice (some ⟨b1, o1, none⟩) (r + 1) c) (some (.int .i64 1)) (some (.int .i64 ((r : Int) + 1))) (some (.int .i64 ((r : Int) + 1)))).run Tryd.prog W = .ok (.slice tl r ct) W)
    (hs2 : ∀ (k M R : Nat) W, k < cnt → k * N = M → (k + 1) * N = R → (Instr.slice 22 (.slice b dl e) (some (.int .i64 (M : Int))) (some (.int .i64 (R : Int))) (some (.int .i64 (R : Int)))).run Tryd.prog W = .ok (.slice (ad k) N (cd k)) W)
    (J Jx : List (Fin cnt) → World → Prop)
    (hY : ∀ pre x W, J pre W → pre.length < cnt → YieldAt Fence.wide (n - 1) Tryd.prog l #[.agg #[.slice tl r ct, .slice (ad x.1) N (cd x.1)]] W fun e W' =>
      (e = .returned (.bool true) ∧ J (pre ++ [x]) W' ∧ KeepsBox q W W') ∨ (e = .returned (.bool false) ∧ Jx (pre ++ [x]) W'))
    (W : World) (hJ : AbidesFrom W.heap.size J) (hB : Box W q (.slice (some ⟨b1, o1, none⟩) (r + 1) c) (.slice b dl e) 27) (h0 : W.cell? ⟨b1, o1, none⟩ = some (.int .i64 (cnt : Int))) (hj : J [] W) :
    CallsIn Fence.wide n Tryd.prog 90 #[.func (.yield l) #[] #[], .pointer (some ⟨q, 0, none⟩)] W fun e W' => (∃ v, e = .returned v) ∧
      ((∃ ys, ys = List.finRange cnt ∧ J ys W') ∨ (∃ pre, True ∧ Jx pre W')) := by
  have HB : Hid (Box W q (.slice (some ⟨b1, o1, none⟩) (r + 1) c) (.slice b dl e) 27) := hB
  have x0 := hB.c0
  have x1 := hB.c1
  clear hB
  refine callsIn_of_wp Tryd.func90 rfl trivial ?_ rfl
  simp only [Tryd.ntmps90, List.size_toArray, List.length_cons, List.length_nil, Nat.reduceAdd, Nat.reduceSub, Array.replicate_succ, Array.replicate_zero, List.push_toArray, List.append_toArray, List.nil_append, List.cons_append]
  gi_wp2
  gi_region
  gi_wp2
  have HQ : Hid (0 < cnt → (dl : Int) / (cnt : Int) = N) := hq
  have HS2 : Hid (∀ (k M R : Nat) W, k < cnt → k * N = M → (k + 1) * N = R → (Instr.slice 22 (.slice b dl e) (some (.int .i64 (M : Int))) (some (.int .i64 (R : Int))) (some (.int .i64 (R : Int)))).run Tryd.prog W = .ok (.slice (ad k) N (cd k)) W) := hs2
  have HJ : Hid (AbidesFrom W.heap.size J) := hJ
  clear hq hs2 x0 x1 hJ
  gi_loopw [18] (fun i wr => ∃ k : Nat, k ≤ cnt ∧ i = .int .i64 k ∧ J (upto cnt k) wr ∧ KeepsBox q W wr)
    (fun i _ => cnt - (intOf i).toNat)
  case atStart => exact ⟨0, by omega, rfl, HJ.out _ _ _ none hj ⟨rfl, rfl, rfl, Nat.le_refl _, fun _ _ _ => rfl⟩ (fun r e => by cases e), rfl⟩
  case round =>
    obtain ⟨k, hk, rfl, hJs, hnx⟩ := hrel
    have X : Hid (Box wr q (.slice (some ⟨b1, o1, none⟩) (r + 1) c) (.slice b dl e) 27) := by
      have := HB.out; unfold Box at this; show wr.heap[q]? = _; rw [show wr.heap[q]? = W.heap[q]? from hnx]; exact this
    by_cases hlt : (k : Int) < (cnt : Int)
    · obtain ⟨M, hM⟩ : ∃ M : Nat, k * N = M := ⟨_, rfl⟩
      obtain ⟨R, hR⟩ : ∃ R : Nat, (k + 1) * N = R := ⟨_, rfl⟩
      have hs2 := fun W => HS2.out k M R W (by omega) hM hR
      have hR1 : R ≤ 90000 := by
        have h1 : (k + 1) * N ≤ 300 * 300 := Nat.mul_le_mul (by omega) hN
        omega
      have hM1 : M ≤ 90000 := by
        have h1 : k * N ≤ 300 * 300 := Nat.mul_le_mul (by omega) hN
        omega
      have eM : (k : Int) * (N : Int) = (M : Int) := by rw [← hM]; simp
      have eR : ((k : Int) + 1) * (N : Int) = (R : Int) := by rw [← hR]; simp
      have hwM : IntKind.i64.wrap (M : Int) = (M : Int) := wrapJ (by omega) (by omega)
      have hwR : IntKind.i64.wrap (R : Int) = (R : Int) := wrapJ (by omega) (by omega)
      have hdv : (dl : Int) / (cnt : Int) = N := HQ.out (by omega)
      have hpos : (0 : Int) < (cnt : Int) := by omega
      have HL : Hid (k < cnt) := by show _ < _; omega
      have x0 := X.out.c0
      have x1 := X.out.c1
      have HJS : Hid (J (upto cnt k) wr) := hJs
      have HNX : Hid (KeepsBox q W wr) := hnx
      clear hM hR hJs hnx
      have d0 : ∀ O : Obj, (wr.alloc O).drew.cell? ⟨q, 0, none⟩ = some (.slice (some ⟨b1, o1, none⟩) (r + 1) c) := fun O => (X.out.keep (bAlloc (Below.refl _ _) O)).c0
      have d1 : ∀ O : Obj, (wr.alloc O).drew.cell? ⟨q, 1, none⟩ = some (.slice b dl e) := fun O => (X.out.keep (bAlloc (Below.refl _ _) O)).c1
      gi_wp2
      gi_region
      generalize hW3 : (wr.alloc (.cells #[.slice tl r ct, .slice (ad k) N (cd k)] 27)).drew = W3
      have hJ3 : J (upto cnt k) W3 := by
        rw [← hW3]
        exact HJ.out _ _ _ none HJS.out ⟨rfl, rfl, rfl, by show wr.heap.size ≤ (wr.alloc _).heap.size; simp, fun j hj _ => Below.heap_alloc _ _ _ hj⟩ (fun r e => by cases e)
      have y0 : W3.cell? ⟨wr.heap.size, 0, none⟩ = some (.slice tl r ct) := by rw [← hW3]; exact cell_newA _ _ _ rfl
      have y1 : W3.cell? ⟨wr.heap.size, 1, none⟩ = some (.slice (ad k) N (cd k)) := by rw [← hW3]; exact cell_newA _ _ _ rfl
      have HK3 : Hid (KeepsBox q W W3) := keepsBox_t HNX.out (by rw [← hW3]; exact Below.heap_alloc _ _ _ X.out.lt)
      clear hW3 d0 d1
      obtain ⟨fn, tmps, assign, body, hy, hRd⟩ := hY (upto cnt k) ⟨k, HL.out⟩ W3 hJ3 (by rw [upto_length hk]; exact HL.out)
      dsimp only at hy
      clear hY
      gi_wp2
      refine hRd.mono ?_
      rintro e' W4 (⟨rfl, hJ4, hk4⟩ | ⟨rfl, hJx4⟩)
      · have HJ4 : Hid (J (upto cnt (k + 1)) W4) := by show J _ _; rw [upto_succ HL.out]; exact hJ4
        have HK4 : Hid (KeepsBox q W W4) := keepsBox_t HK3.out hk4
        clear hJ4 hk4
        gi_wp2
        go_roundw
        case rel => exact ⟨k + 1, by have := HL.out; omega, by go_num, HJ4.out, HK4.out⟩
        case measure => simp [intOf]; omega
      · gi_wp2
        refine bodyPost_ret (results_none rfl _ _ _) rfl ?_
        exact ⟨⟨_, rfl⟩, .inr ⟨_, trivial, hJx4⟩⟩
    · obtain rfl : k = cnt := by omega
      rw [upto_all] at hJs
      gi_wp2
      go_end0
      first
        | exact ⟨⟨_, rfl⟩, .inl ⟨_, rfl, hJs⟩⟩
        | exact ⟨⟨_, rfl⟩, .inl hJs⟩
/-- cutRows: the array is boxed; the function value captures the box. -/
theorem cutRows_in (n : Nat) (x y : Value) (w : World) (hx : x.oneCell' = true) (hy : y.oneCell' = true) :
    CallsIn Fence.wide n Tryd.prog 67 #[.agg #[x, y]] w fun e w' => e = .returned (.func (.func 90) #[] #[.pointer (some ⟨w.heap.size, 0, none⟩)]) ∧ w' = w.alloc (.cells #[x, y] 27) := by
  refine callsIn_of_wp Tryd.func67 rfl trivial ?_ rfl
  simp only [Tryd.ntmps67, List.size_toArray, List.length_cons, List.length_nil, Nat.reduceAdd, Nat.reduceSub, Array.replicate_succ, Array.replicate_zero, List.push_toArray, List.append_toArray, List.nil_append, List.cons_append]
  gi_wp2
  go_ret
  exact ⟨rfl, rfl⟩
/-- The value that cutRows hands back tells the rows in order. -/
theorem cut_stops (n q cnt N r b1 o1 c dl e ct : Nat) (tl b : Option Addr) (ad : Nat → Option Addr) (cd : Nat → Nat) (hn : 1 ≤ n) (hc : cnt ≤ 300) (hN : N ≤ 300) (hr : r ≤ 3)
    (hq : 0 < cnt → (dl : Int) / (cnt : Int) = N)
    (hs1 : ∀ W, (Instr.slice 22 (.slice (some ⟨b1, o1, none⟩) (r + 1) c) (some (.int .i64 1)) (some (.int .i64 ((r : Int) + 1))) (some (.int .i64 ((r : Int) + 1)))).run Tryd.prog W = .ok (.slice tl r ct) W)
    (hs2 : ∀ (k M R : Nat) W, k < cnt → k * N = M → (k + 1) * N = R → (Instr.slice 22 (.slice b dl e) (some (.int .i64 (M : Int))) (some (.int .i64 (R : Int))) (some (.int .i64 (R : Int)))).run Tryd.prog W = .ok (.slice (ad k) N (cd k)) W)
    (w : World) (hb1 : b1 < w.heap.size) (hB : Box w q (.slice (some ⟨b1, o1, none⟩) (r + 1) c) (.slice b dl e) 27) (h0 : w.cell? ⟨b1, o1, none⟩ = some (.int .i64 (cnt : Int))) :
    SeqStopsK Fence.wide n Tryd.prog 90 #[.pointer (some ⟨q, 0, none⟩)] (fun x : Fin cnt => #[.agg #[.slice tl r ct, .slice (ad x.1) N (cd x.1)]]) (KeepsBox q) (fun ys => ys = List.finRange cnt) (fun _ => True) cnt w := fun l J Jx W hW hJ _ hY hj =>
  cut_in n l q cnt N r b1 o1 c dl e ct tl b ad cd hn hc hN hr hq hs1 hs2 J Jx hY W hJ (hB.keep hW) ((hW.cell (p := ⟨b1, o1, none⟩) hb1).trans h0) hj
end Go.Proofs.YtcaidhmolnnikaaDoor
namespace Go.Proofs.YtcaidhmolnnikaaDoor
open Go.RowKit Go.Shelf
set_option linter.unusedVariables false
set_option linter.unusedSimpArgs false
theorem op_in {P : Program} {ops : Array Oper} {Q : Exit → Act → World → Prop} {l n i : Nat} (hQ : ¬ LetsOut Q) (hd : ∀ (i : Nat) (o : Oper), ops[i]? = some o → ∀ c, o.op ≠ Op.defer c) {K K' : Act → World → Prop} (hK : ∀ a w, K a w → K' a w) {a : Act} {w : World} (h : wpOp P ops Q i K a w) :
    wpOpIn (Fence.wide.inRound l) n P ops Q i K' a w := by
  unfold wpOp at h
  unfold wpOpIn
  cases hi : ops[i]? with
  | none => rw [hi] at h; exact hK _ _ h
  | some o =>
    rw [hi] at h
    dsimp only at h ⊢
    by_cases hw : Region.wanted o (yielded ops a.tmps) = true
    · rw [if_pos hw] at h ⊢
      rcases h with h | ⟨_, h⟩
      · refine ⟨fun _ _ => trivial, ?_⟩
        rw [show (Fence.wide.inRound l).round = some l from rfl, Oper.semAt_some l _ _ (hd i o hi)]
        unfold Oper.wp at h
        generalize (execOp a.eval o).run P w = r at h ⊢
        cases r with
        | ok x w' =>
          cases x with
          | value v => exact hK _ _ h
          | skip => exact hK _ _ h
          | defer d => exact hK _ _ h
          | enter f args =>
            refine And.intro (fun q => (by cases q)) (CallsIn.inRound l (callsIn_wide.2 (Calls.mono h ?_)))
            intro e w'' he
            cases e with
            | returned v => exact hK _ _ he
            | panicked c => exact he
            | outgrown => exact he
          | row row args =>
            refine And.intro (fun q => (by cases q)) (fun c cs _ => ?_)
            obtain ⟨v, w3, q, s⟩ := h c cs
            exact ⟨v, w3, hK _ _ q, stepsIn_wide.2 s⟩
          | _ => exact False.elim h
        | halt x w' =>
          cases x <;> exact h
      · exact absurd h hQ
    · rw [if_neg hw] at h ⊢
      exact ⟨fun _ _ => trivial, hK _ _ h⟩
theorem any_in {P : Program} {md : Region.Mode} {ops : Array Oper} {Q : Exit → Act → World → Prop} {l n : Nat} (hQ : ¬ LetsOut Q) (hd : ∀ (i : Nat) (o : Oper), ops[i]? = some o → ∀ c, o.op ≠ Op.defer c) :
    ∀ (fuel : Nat) (listed : Array Bool) (a : Act) (w : World), wpAny P md ops Q fuel listed a w → wpAnyIn (Fence.wide.inRound l) n P md ops Q fuel listed a w := by
  intro fuel
  induction fuel with
  | zero => intro listed a w h; exact h
  | succ fuel ih =>
    intro listed a w h
    exact ⟨h.1, fun i hi => op_in hQ hd (fun a w q => ih _ a w q) (h.2 i hi)⟩
/-- The beginning of such a region, under a condition that holds throughout. -/
theorem region_in {P : Program} {ops : Array Oper} {Q : Exit → Act → World → Prop} {S : World → Prop} {l n id : Nat} {a : Act} {w : World} (hQ : ¬ LetsOut Q) (hd : ∀ (i : Nat) (o : Oper), ops[i]? = some o → ∀ c, o.op ≠ Op.defer c) (hm : P.follows .mixedOrders = true) (hS : S w.drew)
    (h : S w.drew → wpAnyH P .any ops Q S ops.size (Array.replicate ops.size false) a w.drew) : (Code.region id ops true).wpIn (Fence.wide.inRound l) n P Q a w :=
  wpIn_region_any hm (any_in hQ hd _ _ _ _ (wpAny_of_held _ _ _ _ (h hS)))
def noDefer (o : Oper) : Bool := match o.op with | .defer _ => false | _ => true
theorem noDefer_spec {ops : Array Oper} (h : ops.all noDefer = true) : ∀ (i : Nat) (o : Oper), ops[i]? = some o → ∀ c, o.op ≠ Op.defer c := by
  intro i o hi c e
  have hm : o ∈ ops := Array.mem_of_getElem? hi
  have := (Array.all_eq_true_iff_forall_mem.1 h) o hm
  unfold noDefer at this
  rw [e] at this
  cases this
end Go.Proofs.YtcaidhmolnnikaaDoor
namespace Go.Proofs.YtcaidhmolnnikaaDoor
open Go.RowKit Go.Shelf
set_option linter.unusedVariables false
set_option linter.unusedSimpArgs false
attribute [local go_sem] Oper.semAt_some
theorem grown_set (W : World) (g o : Nat) (u : Value) : W.grownBy (W.setCell ⟨g, o, none⟩ u) (some g) := by
  have h := win_setCell W g o u
  exact ⟨h.os, h.tape, h.output, h.size, fun k hk hne => h.block k hk (by have : k ≠ g := fun e => hne (by rw [e]); omega)⟩
theorem step_clear_run {ops : Array Oper} {o : Oper} {a : Act} {w w' : World} {K : Act → World → Prop} {Q : Exit → Act → World → Prop} {E : Prop} (hgd : o.guard = none) (s : Operand) (sT : TypeId)
    (ho : o.op = .call { callee := .builtin .clear, args := #[s], argTypes := #[sT] }) (x v : Value) (hs : a.eval s = x)
    (hrun : (Builtin.clear_ #[sT] o.type #[x]).run Tryd.prog w = .ok v w') (hK : K (a.put o.dst v) w') :
    if Region.wanted o (yielded ops a.tmps) = true then Oper.wp Tryd.prog o a w K Q else E := by
  have hw : Region.wanted o (yielded ops a.tmps) = true := by simp [Region.wanted, hgd]
  rw [if_pos hw]
  unfold Oper.wp
  simp [execOp, ho, resolve, invoke, builtin, hs, hrun, Result.andThen]
  exact hK
theorem texts_cut3 (g : Nat) (W : World) : (Instr.sliceAt 57 (.pointer (some ⟨g, 9, none⟩)) none (some (.int .i64 (IntKind.i64.wrap 3))) none).run Tryd.prog W = .ok (.slice (some ⟨g, 9, none⟩) 3 4) W := by kernel_rfl
theorem texts_cut4 (g : Nat) (W : World) : (Instr.sliceAt 57 (.pointer (some ⟨g, 9, none⟩)) none (some (.int .i64 (IntKind.i64.wrap 4))) none).run Tryd.prog W = .ok (.slice (some ⟨g, 9, none⟩) 4 4) W := by kernel_rfl
theorem keeps_below {W W' : World} (h : Below W.heap.size W W') : KeepsOthers W W' := ⟨h.size, fun k o hk _ => by rw [h.block k (Array.getElem?_eq_some_iff.1 hk).1]; exact hk⟩
set_option maxRecDepth 100000 in
set_option maxHeartbeats 4000000 in
theorem text2_walk (cnt N b1 o1 c e ct g m : Nat) (t3 : Value) (t d : List Int) (tl b : Option Addr) (ad : Nat → Option Addr) (cd : Nat → Nat) (f : Nat → ByteArray) (w0 w : World) (hc : cnt ≤ 300) (hN : N ≤ 300)
    (hq : 0 < cnt → (d.length : Int) / (cnt : Int) = N)
    (hs1 : ∀ W, (Instr.slice 22 (.slice (some ⟨b1, o1, none⟩) (1 + 1) c) (some (.int .i64 1)) (some (.int .i64 (((1 : Nat) : Int) + 1))) (some (.int .i64 (((1 : Nat) : Int) + 1)))).run Tryd.prog W = .ok (.slice tl 1 ct) W)
    (hs2 : ∀ (k M R : Nat) W, k < cnt → k * N = M → (k + 1) * N = R → (Instr.slice 22 (.slice b d.length e) (some (.int .i64 (M : Int))) (some (.int .i64 (R : Int))) (some (.int .i64 (R : Int)))).run Tryd.prog W = .ok (.slice (ad k) N (cd k)) W)
    (hb0 : Below w0.heap.size w0 w) (hng : w0.heap.size ≤ g) (hb1 : b1 < w0.heap.size) (h0 : w0.cell? ⟨b1, o1, none⟩ = some (.int .i64 (cnt : Int)))
    (hg : Sheet w g m (.slice none 0 0) t3) (hf : ∀ k, k < cnt → (f k).size ≤ 16777216)
    (hsub : ∀ k, k < cnt → ∀ (W : World) (v : Value), Below w0.heap.size w0 W → Sheet W g m v t3 → Calls Tryd.prog 35 #[.pointer (some ⟨g, 0, none⟩), .agg #[.slice tl 1 ct, .slice (ad k) N (cd k)]] W fun e w' => e = .returned (.string (f k)) ∧ Below W.heap.size W w') :
    Calls Tryd.prog 35 #[.pointer (some ⟨g, 0, none⟩), .agg #[.slice (some ⟨b1, o1, none⟩) 2 c, .slice b d.length e]] w fun e w' => e = .returned (.string (jnS ⟨#[10]⟩ ((List.finRange cnt).map (fun k => f k.1)))) ∧ Below w.heap.size w w' := by
  have B0 : Hid (Below w0.heap.size w0 w) := hb0
  have HG : Hid (Sheet w g m (.slice none 0 0) t3) := hg
  have HS : Hid (∀ k, k < cnt → ∀ (W : World) (v : Value), Below w0.heap.size w0 W → Sheet W g m v t3 → Calls Tryd.prog 35 #[.pointer (some ⟨g, 0, none⟩), .agg #[.slice tl 1 ct, .slice (ad k) N (cd k)]] W fun e w' => e = .returned (.string (f k)) ∧ Below W.heap.size W w') := hsub
  have HF : Hid (∀ k, k < cnt → (f k).size ≤ 16777216) := hf
  have GL : Hid (g < w.heap.size) := lt_of_heapA hg
  clear hb0 hg hsub hf
  refine (callsIn_wide (n := 6)).1 ?_
  refine callsIn_of_wp_marks Tryd.func35 rfl trivial ?_ rfl
  simp only [Tryd.ntmps35, List.size_toArray, List.length_cons, List.length_nil, Nat.reduceAdd, Nat.reduceSub, Array.replicate_succ, Array.replicate_zero, List.push_toArray, List.append_toArray, List.nil_append, List.cons_append]
  gi_wp2_with fail
  refine ⟨trivial, (cutRows_in _ _ _ _ rfl rfl).mono ?_⟩
  rintro rr w2 ⟨rfl, hw⟩
  have n3 := three_new w (.cells #[.pointer (some ⟨g, 0, none⟩)] 94) (.cells #[.slice (some ⟨b1, o1, none⟩) 2 c, .slice b d.length e] 27) (.cells #[.int .i64 2] 3)
  have Bw1 := bAlloc (bAlloc (bAlloc (Below.refl w.heap.size w) (.cells #[.pointer (some ⟨g, 0, none⟩)] 94)) (.cells #[.slice (some ⟨b1, o1, none⟩) 2 c, .slice b d.length e] 27)) (.cells #[.int .i64 2] 3)
  generalize (((w.alloc (.cells #[.pointer (some ⟨g, 0, none⟩)] 94)).alloc (.cells #[.slice (some ⟨b1, o1, none⟩) 2 c, .slice b d.length e] 27)).alloc (.cells #[.int .i64 2] 3)) = w1 at *
  obtain ⟨n3a, n3b, n3c, n3s⟩ := n3
  have bW := bAlloc (Below.refl w1.heap.size w1) (.cells #[.slice (some ⟨b1, o1, none⟩) 2 c, .slice b d.length e] 27)
  have hQ := heap_alloc_new w1 (.cells #[.slice (some ⟨b1, o1, none⟩) 2 c, .slice b d.length e] 27)
  have hz : (w1.alloc (.cells #[.slice (some ⟨b1, o1, none⟩) 2 c, .slice b d.length e] 27)).heap.size = w1.heap.size + 1 := by simp only [World.alloc, Array.size_push]
  rw [← hw] at bW hQ hz
  have H2 : Hid (w2.heap.size = w.heap.size + 4 ∧ w1.heap.size = w.heap.size + 3) := ⟨by omega, n3s⟩
  have S2 : Hid (w2.heap[w.heap.size]? = some (.cells #[.pointer (some ⟨g, 0, none⟩)] 94 (0, 0)) ∧ w2.heap[w.heap.size + 1 + 1]? = some (.cells #[.int .i64 2] 3 (0, 0))) := ⟨(bW.block _ (lt_of_heapA n3a)).trans n3a, (bW.block _ (lt_of_heapA n3c)).trans n3c⟩
  have Q2 : Hid (Box w2 w1.heap.size (.slice (some ⟨b1, o1, none⟩) 2 c) (.slice b d.length e) 27) := hQ
  have B2 : Hid (Below w.heap.size w w2) := bTrans Bw1 bW
  have D2 : Hid (Below w0.heap.size w0 w2) := B0.out.trans (B2.out.mono B0.out.size)
  have G2 : Hid (Sheet w2 g m (.slice none 0 0) t3) := HG.out.keep B2.out
  have hz2 : w2.cell? ⟨b1, o1, none⟩ = some (.int .i64 (cnt : Int)) := by rw [D2.out.cell (p := ⟨b1, o1, none⟩) hb1]; exact h0
  have hb2 : b1 < w2.heap.size := by have := D2.out.size; omega
  clear hw n3a n3b n3c n3s bW hQ hz Bw1
  gi_wp2_with fail
  refine wpIn_rangeFunc_ownH rfl (by decide) (gf := 90) (lb := #[.pointer (some ⟨w1.heap.size, 0, none⟩)]) rfl trivial (enters_of Tryd.func90 (by kernel_rfl) rfl)
    (cut_stops 5 w1.heap.size cnt N 1 b1 o1 c d.length e ct tl b ad cd (by decide) hc hN (by decide) hq hs1 hs2 w2 hb2 Q2.out hz2) keepsBox_t (keepsBox_b (by have := H2.out; omega)) (Below.refl _ _) (fun _ => rfl)
    (fun pre W => ∃ v, Sheet W g m v t3 ∧ NewStr w2.heap.size W v (pre.map (fun k => f k.1)) ∧ Win g (g + 1) w2 W)
    (fun _ _ _ => False)
    ?hI (fun _ _ _ _ _ hs _ _ => hs)
    ⟨_, G2.out, NewStr.nil _ _, Win.refl _ _ _⟩
    (fun x a' W => ∃ Bx, w2.heap.size ≤ Bx ∧ Box W Bx (.slice tl 1 ct) (.slice (ad x.1) N (cd x.1)) 27 ∧ a' = { tmps := #[.pointer (some ⟨g, 0, none⟩), .agg #[.slice (some ⟨b1, o1, none⟩) 2 c, .slice b d.length e], .pointer (some ⟨w.heap.size, 0, none⟩), .pointer (some ⟨w.heap.size + 1, 0, none⟩), .string ⟨#[]⟩, .pointer (some ⟨w.heap.size + 1 + 1, 0, none⟩), .pointer (some ⟨Bx, 0, none⟩), undef, undef, .pointer (some ⟨w.heap.size + 1, 0, none⟩), .slice (some ⟨b1, o1, none⟩) 2 c, .int .i64 2, .int .i64 2, .bool false, undef, undef, undef, undef, undef, undef, undef, .agg #[.slice (some ⟨b1, o1, none⟩) 2 c, .slice b d.length e], .func (.func 90) #[] #[.pointer (some ⟨w1.heap.size, 0, none⟩)], .agg #[.slice tl 1 ct, .slice (ad x.1) N (cd x.1)], undef, undef, undef, undef, undef, undef, undef, undef, undef, undef, undef, undef, undef, undef, undef, undef, undef, undef, undef, undef, undef, undef, undef, undef, undef, undef, undef, undef, undef, undef, undef, undef, undef, undef, undef, undef, undef, undef], defers := [] })
    ?hAx ?assign ?body ?done ?stop
  case hI =>
    rintro pre X Y row ⟨v, hsh, hst, hwn⟩ hg hrow
    have hne : ∀ j, j < w2.heap.size → row ≠ some j := fun j hj e' => by have := (hrow j e').1; omega
    refine ⟨v, ?_, hst.grown hg (fun r' e' e2 => ?_), ?_⟩
    · unfold Sheet at hsh ⊢
      rw [hg.block g (lt_of_heapA hsh) (fun e' => hne g (by have := GL.out; have := H2.out; omega) e'.symm)]
      exact hsh
    · obtain ⟨_, o, ho, hcc⟩ := hrow r' e'
      obtain ⟨_, cs, ty, z, hh⟩ := hst.row r' e2
      rw [hh] at ho; cases ho; cases hcc
    · exact ⟨hg.os.trans hwn.os, hg.tape.trans hwn.tape, hg.output.trans hwn.output, Nat.le_trans hwn.size hg.size, fun j hj hd => by
        rw [hg.block j (Nat.lt_of_lt_of_le hj hwn.size) (fun e' => hne j hj e'.symm)]
        exact hwn.block j hj hd⟩
  case hAx =>
    rintro x a' _ X Y row ⟨Bx, h1, h2, h3⟩ hg hr'
    refine ⟨Bx, h1, ?_, h3⟩
    unfold Box at h2 ⊢
    rw [hg.block Bx (lt_of_heapA h2) (fun e' => ?_)]
    · exact h2
    · obtain ⟨_, o, ho, hcc⟩ := hr' Bx e'.symm; rw [h2] at ho; cases ho; cases hcc
  case assign =>
    rintro l pre x W K ⟨v, hsh, hst, hwn⟩ hK
    gi_wp2
    refine hK _ _ ((KeepsOthers.alloc _ _).from _) (Below.heap_alloc _ _ _ (by have := H2.out; have := hwn.size; omega)) ⟨v, hsh.keep (bAlloc (Below.refl _ _) _), hst.keep (bAlloc (Below.refl _ _) _), ?_⟩ ⟨W.heap.size, hwn.size, box_new W _ _ _, rfl⟩
    have hb := bAlloc (Below.refl W.heap.size W) (.cells #[.slice tl 1 ct, .slice (ad x.1) N (cd x.1)] 27)
    exact ⟨hb.os.trans hwn.os, hb.tape.trans hwn.tape, hb.output.trans hwn.output, Nat.le_trans hwn.size hb.size, fun j hj hd => (hb.block j (Nat.lt_of_lt_of_le hj hwn.size)).trans (hwn.block j hj hd)⟩
  case body =>
    rintro l pre x a' W hl _ ⟨v, hsh, hst, hwn⟩ ⟨Bx, hBx, hX, rfl⟩ hlt
    have y0 := hX.c0
    have y1 := hX.c1
    have sW : W.heap[w.heap.size]? = some (.cells #[.pointer (some ⟨g, 0, none⟩)] 94 (0, 0)) := (hwn.block _ (lt_of_heapA S2.out.1) (by have := GL.out; omega)).trans S2.out.1
    have rW : W.heap[w.heap.size + 1 + 1]? = some (.cells #[.int .i64 2] 3 (0, 0)) := (hwn.block _ (lt_of_heapA S2.out.2) (by have := GL.out; omega)).trans S2.out.2
    have u0 : W.cell? ⟨w.heap.size, 0, none⟩ = some (.pointer (some ⟨g, 0, none⟩)) := cell_at sW rfl
    have DW : Hid (Below w0.heap.size w0 W) := D2.out.trans (hwn.below hng D2.out.size)
    have HSH : Hid (Sheet W g m v t3) := hsh
    gi_wp2_with fail
    refine ⟨trivial, (CallsIn.inRound l (callsIn_wide.2 (HS.out x.1 x.2 W v DW.out HSH.out))).mono ?_⟩
    rintro rr w3 ⟨rfl, hb⟩
    obtain ⟨va, vc, rfl⟩ := hst.slice
    rw [List.length_map] at hst hsh HSH
    have B3 : Hid (Below W.heap.size W w3) := hb
    have N3 : Hid (NewStr w2.heap.size w3 (.slice va pre.length vc) (pre.map (fun k => f k.1))) := by have := hst.keep hb; exact this
    have GW : Hid (w2.heap.size ≤ W.heap.size ∧ W.heap.size ≤ w3.heap.size) := ⟨hwn.size, hb.size⟩
    have n4 : NewStr w2.heap.size w3.drew (.slice va ((pre.map (fun k => f k.1)).length) vc) (pre.map (fun k => f k.1)) := by rw [List.length_map]; exact N3.out.keep ((Below.refl _ _).drew)
    obtain ⟨a5, c5, w5, r5, n5, b5, q5⟩ := growStr (f x.1) n4 (show w2.heap.size ≤ w3.heap.size by have := GW.out; omega) (by rw [List.length_map]; omega)
    rw [List.length_map] at r5 n5 q5
    have R5 : Hid (∀ ty, (Builtin.append_ #[56, 56] ty #[.slice va pre.length vc, .slice (some ⟨w3.heap.size, 0, none⟩) 1 1]).run Tryd.prog (w3.drew.alloc (.cells #[.string (f x.1)] 9)) = .ok (.slice a5 (pre.length + 1) c5) w5) := r5
    have N5 : Hid (NewStr w2.heap.size w5 (.slice a5 (pre.length + 1) c5) (pre.map (fun k => f k.1) ++ [f x.1])) := n5
    have B35 : Hid (Below w2.heap.size w3 w5) := (show Below w2.heap.size w3 w3.drew from (Below.refl _ _).drew).trans b5
    have B25 : Hid (Below w2.heap.size W w5) := (hb.mono hwn.size).trans B35.out
    have G3 : Hid (Sheet w3 g m (.slice va pre.length vc) t3) := hsh.keep hb
    have G5 : Hid (Sheet w5 g m (.slice va pre.length vc) t3) := (B35.out.block g (by have := GL.out; have := H2.out; omega)).trans G3.out
    have SKB : Hid (∀ W', Below w2.heap.size W W' → W'.cell? ⟨w.heap.size, 0, none⟩ = some (.pointer (some ⟨g, 0, none⟩)) ∧ W'.cell? ⟨w.heap.size + 1 + 1, 0, none⟩ = some (.int .i64 2)) := fun W' hb' =>
      ⟨(hb'.cell (p := ⟨w.heap.size, 0, none⟩) (by have := H2.out; show w.heap.size < _; omega)).trans u0, (hb'.cell (p := ⟨w.heap.size + 1 + 1, 0, none⟩) (by have := H2.out; show w.heap.size + 1 + 1 < _; omega)).trans (cell_at rW rfl)⟩
    have S3 := SKB.out w3.drew ((hb.mono hwn.size).drew)
    have SA : ∀ O : Obj, (w3.drew.alloc O).cell? ⟨w.heap.size, 0, none⟩ = some (.pointer (some ⟨g, 0, none⟩)) ∧ (w3.drew.alloc O).cell? ⟨w.heap.size + 1 + 1, 0, none⟩ = some (.int .i64 2) := fun O => SKB.out _ (((hb.mono hwn.size).drew).alloc (by have := GW.out; show w2.heap.size ≤ w3.heap.size; omega) O)
    have S5 := SKB.out w5 B25.out
    have NE : w.heap.size ≠ g ∧ w.heap.size + 1 + 1 ≠ g := ⟨by have := GL.out; omega, by have := GL.out; omega⟩
    have S6 : (w5.setCell ⟨g, 11, none⟩ (.slice a5 (pre.length + 1) c5)).cell? ⟨w.heap.size, 0, none⟩ = some (.pointer (some ⟨g, 0, none⟩)) ∧ (w5.setCell ⟨g, 11, none⟩ (.slice a5 (pre.length + 1) c5)).cell? ⟨w.heap.size + 1 + 1, 0, none⟩ = some (.int .i64 2) := ⟨(World.cell?_of_block (heap_setCell_other _ _ _ _ NE.1)).trans S5.1, (World.cell?_of_block (heap_setCell_other _ _ _ _ NE.2)).trans S5.2⟩
    have v3 : w3.drew.cell? ⟨g, 11, none⟩ = some (.slice va pre.length vc) := cell_at G3.out rfl
    have vA : ∀ O : Obj, (w3.drew.alloc O).cell? ⟨g, 11, none⟩ = some (.slice va pre.length vc) := fun O => ((bAlloc (Below.refl w3.drew.heap.size w3.drew) O).cell (p := ⟨g, 11, none⟩) (lt_of_heapA G3.out)).trans v3
    have vB : ∀ O : Obj, (w3.alloc O).cell? ⟨g, 11, none⟩ = some (.slice va pre.length vc) := fun O => vA O
    have v5 : w5.cell? ⟨g, 11, none⟩ = some (.slice va pre.length vc) := cell_at G5.out rfl
    have f5 : w5.frozen? ⟨g, 11, none⟩ = false := free_at G5.out _
    have LEAF : Hid (KeepsFrom w2.heap.size W (w5.setCell ⟨g, 11, none⟩ (.slice a5 (pre.length + 1) c5)) ∧ KeepsBox w1.heap.size W (w5.setCell ⟨g, 11, none⟩ (.slice a5 (pre.length + 1) c5)) ∧ ∃ v, Sheet (w5.setCell ⟨g, 11, none⟩ (.slice a5 (pre.length + 1) c5)) g m v t3 ∧ NewStr w2.heap.size (w5.setCell ⟨g, 11, none⟩ (.slice a5 (pre.length + 1) c5)) v ((pre ++ [x]).map (fun k => f k.1)) ∧ Win g (g + 1) w2 (w5.setCell ⟨g, 11, none⟩ (.slice a5 (pre.length + 1) c5))) := by
      refine ⟨?_, ?_, _, heap_setCell_same w5 g 11 _ _ _ G5.out, ?_, ?_⟩
      · have k1 : KeepsOthers W w3.drew := keeps_below hb.drew
        have k2 : KeepsOthers (w3.drew.alloc (.cells #[.string (f x.1)] 9)) w5 := KeepsOthers.of_grownBy q5 (fun j o hj ho => by
          obtain ⟨_, cs, ty, z, hh⟩ := n4.row j (by rw [List.length_map]; exact hj)
          have h1 : (w3.drew.alloc (.cells #[.string (f x.1)] 9)).heap[j]? = w3.drew.heap[j]? := Below.heap_alloc _ _ _ (lt_of_heapA hh)
          rw [h1, hh] at ho
          cases ho
          rfl)
        exact (((k1.trans (KeepsOthers.alloc _ _)).trans k2).trans (KeepsOthers.setCell _ _ _)).from _
      · have hq : w1.heap.size < w2.heap.size := by have := H2.out; omega
        show (w5.setCell _ _).heap[w1.heap.size]? = W.heap[w1.heap.size]?
        rw [heap_setCell_other _ _ _ _ (show w1.heap.size ≠ g by have := GL.out; have := H2.out; omega)]
        exact B25.out.block _ hq
      · rw [List.map_append]
        exact N5.out.grown (grown_set w5 g 11 (.slice a5 (pre.length + 1) c5)) (fun r' e' e2 => by
          have h1 := (N5.out.row r' e2).1
          have := GL.out; have := H2.out
          cases e'
          omega)
      · have hw5 : Win g (g + 1) w2 w5 := ⟨B25.out.os.trans hwn.os, B25.out.tape.trans hwn.tape, B25.out.output.trans hwn.output, Nat.le_trans hwn.size B25.out.size, fun j hj hd => (B25.out.block j hj).trans (hwn.block j hj hd)⟩
        exact hw5.trans (win_setCell _ _ _ _)
    clear hb hst hsh hwn HSH r5 n5 b5 q5 n4 y0 y1 sW rW u0
    gi_wp2_with fail
    refine region_in (S := (fun w' => w'.cell? ⟨w.heap.size, 0, none⟩ = some (.pointer (some ⟨g, 0, none⟩)) ∧ w'.cell? ⟨w.heap.size + 1 + 1, 0, none⟩ = some (.int .i64 2))) (fun ⟨_, _, h⟩ => h) (noDefer_spec (by kernel_rfl)) (by kernel_rfl) ?_ (fun hHeld0 => ?_)
    · (try dsimp only); (first | exact S3 | exact SA _ | exact S5 | exact S6)
    refine wpAnyH_take (i := 0) (oi := _) (v := ?_) rfl (by kernel_rfl) (by kernel_rfl) (by kernel_rfl) (fun _ _ _ h => h) (Or.inl ⟨by rfl, ?_⟩) (by assumption) ?_
    rotate_left
    · intro wS hSw; (try dsimp only at hSw); go_simp; (try with_reducible rfl)
    try simp only [Act.put, List.setIfInBounds_toArray, List.set_cons_zero, List.set_cons_succ]
    refine wpAnyH_take (i := 1) (oi := _) (v := ?_) rfl (by kernel_rfl) (by kernel_rfl) (by kernel_rfl) (fun _ _ _ h => h) (Or.inl ⟨by rfl, ?_⟩) (by assumption) ?_
    rotate_left
    · intro wS hSw; (try dsimp only at hSw); go_simp; (try with_reducible rfl)
    try simp only [Act.put, List.setIfInBounds_toArray, List.set_cons_zero, List.set_cons_succ]
    refine wpAnyH_take (i := 2) (oi := _) (v := ?_) rfl (by kernel_rfl) (by kernel_rfl) (by kernel_rfl) (fun _ _ _ h => h) (Or.inl ⟨by rfl, ?_⟩) (by assumption) ?_
    rotate_left
    · intro wS hSw; (try dsimp only at hSw); go_simp; (try with_reducible rfl)
    try simp only [Act.put, List.setIfInBounds_toArray, List.set_cons_zero, List.set_cons_succ]
    refine wpAnyH_take (i := 3) (oi := _) (v := ?_) rfl (by kernel_rfl) (by kernel_rfl) (by kernel_rfl) (fun _ _ _ h => h) (Or.inl ⟨by rfl, ?_⟩) (by assumption) ?_
    rotate_left
    · intro wS hSw; (try dsimp only at hSw); go_simp; (try with_reducible rfl)
    try simp only [Act.put, List.setIfInBounds_toArray, List.set_cons_zero, List.set_cons_succ]
    refine wpAnyH_take (i := 4) (oi := _) (v := ?_) rfl (by kernel_rfl) (by kernel_rfl) (by kernel_rfl) (fun _ _ _ h => h) (Or.inl ⟨by rfl, ?_⟩) (by assumption) ?_
    rotate_left
    · intro wS hSw; (try dsimp only at hSw); go_simp; (try with_reducible rfl)
    try simp only [Act.put, List.setIfInBounds_toArray, List.set_cons_zero, List.set_cons_succ]
    refine wpAnyH_take (i := 5) (oi := _) (v := ?_) rfl (by kernel_rfl) (by kernel_rfl) (by kernel_rfl) (fun _ _ _ h => h) (Or.inl ⟨by rfl, ?_⟩) (by assumption) ?_
    rotate_left
    · intro wS hSw; (try dsimp only at hSw); go_simp; (try with_reducible rfl)
    try simp only [Act.put, List.setIfInBounds_toArray, List.set_cons_zero, List.set_cons_succ]
    refine wpAnyH_take (i := 6) (oi := _) (v := ?_) rfl (by kernel_rfl) (by kernel_rfl) (by kernel_rfl) (fun _ _ _ h => h) (Or.inl ⟨by rfl, ?_⟩) (by assumption) ?_
    rotate_left
    · intro wS hSw; (try dsimp only at hSw); go_simp; (try with_reducible rfl)
    try simp only [Act.put, List.setIfInBounds_toArray, List.set_cons_zero, List.set_cons_succ]
    refine wpAnyH_take (i := 8) (oi := _) (v := ?_) rfl (by kernel_rfl) (by kernel_rfl) (by kernel_rfl) (fun _ _ _ h => h) (Or.inl ⟨by rfl, ?_⟩) (by assumption) ?_
    rotate_left
    · intro wS hSw; (try dsimp only at hSw); go_simp; (try with_reducible rfl)
    try simp only [Act.put, List.setIfInBounds_toArray, List.set_cons_zero, List.set_cons_succ]
    refine wpAnyH_take (i := 11) (oi := _) (v := ?_) rfl (by kernel_rfl) (by kernel_rfl) (by kernel_rfl) (fun _ _ _ h => h) (Or.inl ⟨by rfl, ?_⟩) (by assumption) ?_
    rotate_left
    · intro wS hSw; (try dsimp only at hSw); go_simp; (try with_reducible rfl)
    try simp only [Act.put, List.setIfInBounds_toArray, List.set_cons_zero, List.set_cons_succ]
    refine wpAnyH_take (i := 12) (oi := _) (v := ?_) rfl (by kernel_rfl) (by kernel_rfl) (by kernel_rfl) (fun _ _ _ h => h) (Or.inl ⟨by rfl, ?_⟩) (by assumption) ?_
    rotate_left
    · intro wS hSw; (try dsimp only at hSw); go_simp; (try with_reducible rfl)
    try simp only [Act.put, List.setIfInBounds_toArray, List.set_cons_zero, List.set_cons_succ]
    refine wpAnyH_ready (rs := [7, 9]) (by kernel_rfl) (by simp) ?_
    refine AllReadyH.cons (o := _) rfl (fun K hK => ?_) ?_
    · skip
      go_simp
      refine hK.out _ _ ?_ (fun hHeld1 => ?_)
      · (try dsimp only); (first | exact S3 | exact SA _ | exact S5 | exact S6)
      clear hK K hHeld0
      try simp only [Act.put, List.setIfInBounds_toArray, List.set_cons_zero, List.set_cons_succ]
      refine wpAnyH_ready (rs := [9]) (by kernel_rfl) (by simp) ?_
      refine AllReadyH.cons (o := _) rfl (fun K hK => ?_) AllReadyH.nil
      go_simp
      refine hK.out _ _ ?_ (fun hHeld2 => ?_)
      · (try dsimp only); (first | exact S3 | exact SA _ | exact S5 | exact S6)
      clear hK K hHeld1
      try simp only [Act.put, List.setIfInBounds_toArray, List.set_cons_zero, List.set_cons_succ]
      refine wpAnyH_ready (rs := [10]) (by kernel_rfl) (by simp) ?_
      refine AllReadyH.cons (o := _) rfl (fun K hK => ?_) AllReadyH.nil
      refine step_append_ty (by rfl) (.tmp 34) (.tmp 36) 56 56 (by rfl) _ _ _ (by rfl) (by rfl) (R5.out _) ?_
      refine hK.out _ _ ?_ (fun hHeld3 => ?_)
      · (try dsimp only); (first | exact S3 | exact SA _ | exact S5 | exact S6)
      clear hK K hHeld2
      try simp only [Act.put, List.setIfInBounds_toArray, List.set_cons_zero, List.set_cons_succ]
      refine wpAnyH_ready (rs := [13]) (by kernel_rfl) (by simp) ?_
      refine AllReadyH.cons (o := _) rfl (fun K hK => ?_) AllReadyH.nil
      go_simp
      refine hK.out _ _ ?_ (fun hHeld4 => ?_)
      · (try dsimp only); (first | exact S3 | exact SA _ | exact S5 | exact S6)
      clear hK K hHeld3
      try simp only [Act.put, List.setIfInBounds_toArray, List.set_cons_zero, List.set_cons_succ]
      refine wpAnyH_ready (rs := [14]) (by kernel_rfl) (by simp) ?_
      refine AllReadyH.cons (o := _) rfl (fun K hK => ?_) AllReadyH.nil
      go_simp
      refine hK.out _ _ ?_ (fun hHeld5 => ?_)
      · (try dsimp only); (first | exact S3 | exact SA _ | exact S5 | exact S6)
      clear hK K hHeld4
      try simp only [Act.put, List.setIfInBounds_toArray, List.set_cons_zero, List.set_cons_succ]
      refine wpAnyH_done (by kernel_rfl) ?_ _
      gi_wp2
      exact LEAF.out
    refine AllReadyH.cons (o := _) rfl (fun K hK => ?_) AllReadyH.nil
    go_simp
    refine hK.out _ _ ?_ (fun hHeld6 => ?_)
    · (try dsimp only); (first | exact S3 | exact SA _ | exact S5 | exact S6)
    clear hK K hHeld0
    try simp only [Act.put, List.setIfInBounds_toArray, List.set_cons_zero, List.set_cons_succ]
    refine wpAnyH_ready (rs := [7]) (by kernel_rfl) (by simp) ?_
    refine AllReadyH.cons (o := _) rfl (fun K hK => ?_) AllReadyH.nil
    go_simp
    refine hK.out _ _ ?_ (fun hHeld7 => ?_)
    · (try dsimp only); (first | exact S3 | exact SA _ | exact S5 | exact S6)
    clear hK K hHeld6
    try simp only [Act.put, List.setIfInBounds_toArray, List.set_cons_zero, List.set_cons_succ]
    refine wpAnyH_ready (rs := [10]) (by kernel_rfl) (by simp) ?_
    refine AllReadyH.cons (o := _) rfl (fun K hK => ?_) AllReadyH.nil
    refine step_append_ty (by rfl) (.tmp 34) (.tmp 36) 56 56 (by rfl) _ _ _ (by rfl) (by rfl) (R5.out _) ?_
    refine hK.out _ _ ?_ (fun hHeld8 => ?_)
    · (try dsimp only); (first | exact S3 | exact SA _ | exact S5 | exact S6)
    clear hK K hHeld7
    try simp only [Act.put, List.setIfInBounds_toArray, List.set_cons_zero, List.set_cons_succ]
    refine wpAnyH_ready (rs := [13]) (by kernel_rfl) (by simp) ?_
    refine AllReadyH.cons (o := _) rfl (fun K hK => ?_) AllReadyH.nil
    go_simp
    refine hK.out _ _ ?_ (fun hHeld9 => ?_)
    · (try dsimp only); (first | exact S3 | exact SA _ | exact S5 | exact S6)
    clear hK K hHeld8
    try simp only [Act.put, List.setIfInBounds_toArray, List.set_cons_zero, List.set_cons_succ]
    refine wpAnyH_ready (rs := [14]) (by kernel_rfl) (by simp) ?_
    refine AllReadyH.cons (o := _) rfl (fun K hK => ?_) AllReadyH.nil
    go_simp
    refine hK.out _ _ ?_ (fun hHeld10 => ?_)
    · (try dsimp only); (first | exact S3 | exact SA _ | exact S5 | exact S6)
    clear hK K hHeld9
    try simp only [Act.put, List.setIfInBounds_toArray, List.set_cons_zero, List.set_cons_succ]
    refine wpAnyH_done (by kernel_rfl) ?_ _
    gi_wp2
    exact LEAF.out
  case done =>
    rintro D' zs W hD rfl ⟨v, hsh, hst, hwn⟩ hK
    have sW : W.heap[w.heap.size]? = some (.cells #[.pointer (some ⟨g, 0, none⟩)] 94 (0, 0)) := (hwn.block _ (lt_of_heapA S2.out.1) (by have := GL.out; omega)).trans S2.out.1
    have rW : W.heap[w.heap.size + 1 + 1]? = some (.cells #[.int .i64 2] 3 (0, 0)) := (hwn.block _ (lt_of_heapA S2.out.2) (by have := GL.out; omega)).trans S2.out.2
    have u0 : W.cell? ⟨w.heap.size, 0, none⟩ = some (.pointer (some ⟨g, 0, none⟩)) := cell_at sW rfl
    have u1 : W.cell? ⟨w.heap.size + 1 + 1, 0, none⟩ = some (.int .i64 2) := cell_at rW rfl
    have u2 : W.cell? ⟨g, 11, none⟩ = some v := cell_at hsh rfl
    have u3 : W.cell? ⟨g, 5, none⟩ = some (.string ⟨#[10]⟩) := cell_at hsh rfl
    have UL : Hid (w.heap.size < W.heap.size ∧ w.heap.size + 1 + 1 < W.heap.size ∧ g < W.heap.size) := ⟨lt_of_heapA sW, lt_of_heapA rW, lt_of_heapA hsh⟩
    have SK : Hid (∀ W', Below W.heap.size W W' → W'.cell? ⟨w.heap.size, 0, none⟩ = some (.pointer (some ⟨g, 0, none⟩)) ∧ W'.cell? ⟨w.heap.size + 1 + 1, 0, none⟩ = some (.int .i64 2) ∧ W'.cell? ⟨g, 11, none⟩ = some v ∧ W'.cell? ⟨g, 5, none⟩ = some (.string ⟨#[10]⟩)) := fun W' hb =>
      ⟨(hb.cell (p := ⟨w.heap.size, 0, none⟩) UL.out.1).trans u0, (hb.cell (p := ⟨w.heap.size + 1 + 1, 0, none⟩) UL.out.2.1).trans u1, (hb.cell (p := ⟨g, 11, none⟩) UL.out.2.2).trans u2, (hb.cell (p := ⟨g, 5, none⟩) UL.out.2.2).trans u3⟩
    have CJ : Hid (∀ W', Below W.heap.size W W' → Calls Tryd.prog 56 #[v, .string ⟨#[10]⟩] W' fun e w' => e = .returned (.string (jnS ⟨#[10]⟩ ((List.finRange cnt).map (fun k => f k.1)))) ∧ Below W'.heap.size W' w') := fun W' hb =>
      joinS (hst.keep hb) _ (by decide) (by simp; omega) (fun x hx => by
        simp only [List.mem_map] at hx
        obtain ⟨k, _, rfl⟩ := hx
        exact HF.out k.1 k.2)
    gi_wp2_with fail
    refine wpIn_wide.2 ?_
    go_region_held3 (fun w' => w'.cell? ⟨w.heap.size, 0, none⟩ = some (.pointer (some ⟨g, 0, none⟩)) ∧ w'.cell? ⟨w.heap.size + 1 + 1, 0, none⟩ = some (.int .i64 2) ∧ w'.cell? ⟨g, 11, none⟩ = some v ∧ w'.cell? ⟨g, 5, none⟩ = some (.string ⟨#[10]⟩))
      ((refine SK.out _ ?_; (repeat first | with_reducible exact HB2.out | with_reducible exact Below.refl _ _ | with_reducible refine Below.drew ?_)))
      ((go_at_call 56; refine (CJ.out _ ((Below.refl W.heap.size W).drew)).mono ?_; rintro r w8 ⟨rfl, hb⟩; have HB2 : Hid (Below W.heap.size W w8) := bTrans ((Below.refl W.heap.size W).drew) hb; clear hb))
    all_goals
      have HSH : Hid (Sheet w8 g m v t3) := hsh.keep HB2.out
      have c8 : ∀ j u, (shC m (.slice none 0 0) (.slice none 0 0) v t3)[j]? = some u → w8.drew.cell? ⟨g, j, none⟩ = some u := fun j u h => cell_at HSH.out h
      have z9 : ∀ j, j < 3 → (w8.drew.cell? ⟨g, 9 + j, none⟩).isSome = true := fun j hj => by
        have : j = 0 ∨ j = 1 ∨ j = 2 ∨ j = 3 := by omega
        rcases this with rfl | rfl | rfl | rfl <;> (rw [c8 _ _ rfl]; rfl)
      have RC := fun ty => Lib.run_clear_slice (P := Tryd.prog) w8.drew 98 56 ty (.slice none 0 0) Tryd.underlying98 (fun w => by kernel_rfl) rfl rfl g 9 3 4 (by decide) z9 (fun j _ => free_at HSH.out _)
      have SH9 : Sheet (w8.drew.setCells g 9 (List.replicate 3 (.slice none 0 0))) g m (.slice none 0 0) t3 := by
        have h0 : w8.drew.heap[g]? = some (.cells (shC m (.slice none 0 0) (.slice none 0 0) v t3) 59 (0, 0)) := HSH.out
        have h1 := heap_setCell_same _ g 9 _ _ (.slice none 0 0) h0
        have h2 := heap_setCell_same _ g 10 _ _ (.slice none 0 0) h1
        have h3 := heap_setCell_same _ g 11 _ _ (.slice none 0 0) h2
        exact h3
      have WN : Win g (g + 1) w8.drew (w8.drew.setCells g 9 (List.replicate 3 (.slice none 0 0))) := (((win_setCell _ g 9 _).trans (win_setCell _ g 10 _)).trans (win_setCell _ g 11 _))
      generalize w8.drew.setCells g 9 (List.replicate 3 (.slice none 0 0)) = w9 at *
      have B8 : Hid (Below W.heap.size W w8) := HB2.out
      have W9 : Hid (Win g (g + 1) w2 w9) := by
        have h1 : Win g (g + 1) w2 w8.drew := ⟨(show w8.drew.os = W.os from B8.out.os).trans hwn.os, B8.out.drew.tape.trans hwn.tape, B8.out.drew.output.trans hwn.output, Nat.le_trans hwn.size B8.out.size, fun j hj hd => (B8.out.drew.block j (Nat.lt_of_lt_of_le hj hwn.size)).trans (hwn.block j hj hd)⟩
        exact h1.trans WN
      have K9 : Hid (w9.heap[D']? = some (.deferred (some []))) := by
        have h1 : w8.drew.heap[D']? = some (.deferred (some [])) := (B8.out.drew.block D' (lt_of_heapA hK)).trans hK
        exact (WN.block D' (lt_of_heapA h1) (by have := GL.out; have := H2.out; omega)).trans h1
      have SG9 : Hid (Sheet w9 g m (.slice none 0 0) t3) := SH9
      have RC9 : Hid (∀ ty, (Builtin.clear_ #[98] ty #[.slice (some ⟨g, 9, none⟩) 3 4]).run Tryd.prog w8.drew = .ok (.tuple #[]) w9) := RC
      have s8 := SK.out w8.drew B8.out.drew
      have S8 : w8.drew.cell? ⟨w.heap.size, 0, none⟩ = some (.pointer (some ⟨g, 0, none⟩)) ∧ w8.drew.cell? ⟨w.heap.size + 1 + 1, 0, none⟩ = some (.int .i64 2) := ⟨s8.1, s8.2.1⟩
      have S9 : w9.cell? ⟨w.heap.size, 0, none⟩ = some (.pointer (some ⟨g, 0, none⟩)) ∧ w9.cell? ⟨w.heap.size + 1 + 1, 0, none⟩ = some (.int .i64 2) := ⟨cell_at ((W9.out.block _ (lt_of_heapA S2.out.1) (by have := GL.out; omega)).trans S2.out.1) rfl, cell_at ((W9.out.block _ (lt_of_heapA S2.out.2) (by have := GL.out; omega)).trans S2.out.2) rfl⟩
      have RS := texts_cut3 g
      clear SH9 WN RC z9 c8 HSH s8 hsh hst hwn sW rW u0 u1 u2 u3 SK CJ
      gi_wp2_with fail
      refine wpIn_wide.2 ?_
      go_region_held3 (fun w' => w'.cell? ⟨w.heap.size, 0, none⟩ = some (.pointer (some ⟨g, 0, none⟩)) ∧ w'.cell? ⟨w.heap.size + 1 + 1, 0, none⟩ = some (.int .i64 2))
        ((first | exact S8 | exact S9))
        ((refine step_clear_run (by rfl) (.tmp 60) 98 (by rfl) _ _ (by rfl) (RC9.out _) ?_))
      all_goals
        have F9 : Below w.heap.size w (w9.putObj D' (.deferred none)) := by
          have hd : w2.heap.size ≤ D' := hD
          refine ⟨W9.out.os.trans B2.out.os, W9.out.tape.trans B2.out.tape, W9.out.output.trans B2.out.output, ?_, fun j hj => ?_⟩
          · have h1 := B2.out.size
            have h2 := W9.out.size
            show w.heap.size ≤ (w9.putObj D' (.deferred none)).heap.size
            have : (w9.putObj D' (.deferred none)).heap.size = w9.heap.size := by simp [World.putObj]
            omega
          · have h1 : (w9.putObj D' (.deferred none)).heap[j]? = w9.heap[j]? := World.putObj_heap_other (by have := H2.out; omega)
            show (w9.putObj D' (.deferred none)).heap[j]? = w.heap[j]?
            rw [h1]
            by_cases e : j = g
            · subst e
              exact SG9.out.trans HG.out.symm
            · rw [W9.out.block j (by have := H2.out; omega) (by omega)]
              exact B2.out.block j hj
        gi_wp2
        refine ⟨by simp, .inl ⟨_, _, rfl, run_takeDeferred K9.out, ?_⟩⟩
        exact ⟨_, results_tmp rfl _ _ _, rfl, F9⟩
  case stop =>
    rintro D' c' pre W _ _ h _
    exact h.elim
set_option maxRecDepth 100000 in
set_option maxHeartbeats 4000000 in
theorem text3_walk (cnt N b1 o1 c e ct g m : Nat) (t d : List Int) (tl b : Option Addr) (ad : Nat → Option Addr) (cd : Nat → Nat) (f : Nat → ByteArray) (w0 w : World) (hc : cnt ≤ 300) (hN : N ≤ 300)
    (hq : 0 < cnt → (d.length : Int) / (cnt : Int) = N)
    (hs1 : ∀ W, (Instr.slice 22 (.slice (some ⟨b1, o1, none⟩) (2 + 1) c) (some (.int .i64 1)) (some (.int .i64 (((2 : Nat) : Int) + 1))) (some (.int .i64 (((2 : Nat) : Int) + 1)))).run Tryd.prog W = .ok (.slice tl 2 ct) W)
    (hs2 : ∀ (k M R : Nat) W, k < cnt → k * N = M → (k + 1) * N = R → (Instr.slice 22 (.slice b d.length e) (some (.int .i64 (M : Int))) (some (.int .i64 (R : Int))) (some (.int .i64 (R : Int)))).run Tryd.prog W = .ok (.slice (ad k) N (cd k)) W)
    (hb0 : Below w0.heap.size w0 w) (hng : w0.heap.size ≤ g) (hb1 : b1 < w0.heap.size) (h0 : w0.cell? ⟨b1, o1, none⟩ = some (.int .i64 (cnt : Int)))
    (hg : Sheet w g m (.slice none 0 0) (.slice none 0 0)) (hf : ∀ k, k < cnt → (f k).size ≤ 16777216)
    (hsub : ∀ k, k < cnt → ∀ (W : World) (v : Value), Below w0.heap.size w0 W → Sheet W g m (.slice none 0 0) v → Calls Tryd.prog 35 #[.pointer (some ⟨g, 0, none⟩), .agg #[.slice tl 2 ct, .slice (ad k) N (cd k)]] W fun e w' => e = .returned (.string (f k)) ∧ Below W.heap.size W w') :
    Calls Tryd.prog 35 #[.pointer (some ⟨g, 0, none⟩), .agg #[.slice (some ⟨b1, o1, none⟩) 3 c, .slice b d.length e]] w fun e w' => e = .returned (.string (jnS ⟨#[10, 10]⟩ ((List.finRange cnt).map (fun k => f k.1)))) ∧ Below w.heap.size w w' := by
  have B0 : Hid (Below w0.heap.size w0 w) := hb0
  have HG : Hid (Sheet w g m (.slice none 0 0) (.slice none 0 0)) := hg
  have HS : Hid (∀ k, k < cnt → ∀ (W : World) (v : Value), Below w0.heap.size w0 W → Sheet W g m (.slice none 0 0) v → Calls Tryd.prog 35 #[.pointer (some ⟨g, 0, none⟩), .agg #[.slice tl 2 ct, .slice (ad k) N (cd k)]] W fun e w' => e = .returned (.string (f k)) ∧ Below W.heap.size W w') := hsub
  have HF : Hid (∀ k, k < cnt → (f k).size ≤ 16777216) := hf
  have GL : Hid (g < w.heap.size) := lt_of_heapA hg
  clear hb0 hg hsub hf
  refine (callsIn_wide (n := 6)).1 ?_
  refine callsIn_of_wp_marks Tryd.func35 rfl trivial ?_ rfl
  simp only [Tryd.ntmps35, List.size_toArray, List.length_cons, List.length_nil, Nat.reduceAdd, Nat.reduceSub, Array.replicate_succ, Array.replicate_zero, List.push_toArray, List.append_toArray, List.nil_append, List.cons_append]
  gi_wp2_with fail
  refine ⟨trivial, (cutRows_in _ _ _ _ rfl rfl).mono ?_⟩
  rintro rr w2 ⟨rfl, hw⟩
  have n3 := three_new w (.cells #[.pointer (some ⟨g, 0, none⟩)] 94) (.cells #[.slice (some ⟨b1, o1, none⟩) 3 c, .slice b d.length e] 27) (.cells #[.int .i64 3] 3)
  have Bw1 := bAlloc (bAlloc (bAlloc (Below.refl w.heap.size w) (.cells #[.pointer (some ⟨g, 0, none⟩)] 94)) (.cells #[.slice (some ⟨b1, o1, none⟩) 3 c, .slice b d.length e] 27)) (.cells #[.int .i64 3] 3)
  generalize (((w.alloc (.cells #[.pointer (some ⟨g, 0, none⟩)] 94)).alloc (.cells #[.slice (some ⟨b1, o1, none⟩) 3 c, .slice b d.length e] 27)).alloc (.cells #[.int .i64 3] 3)) = w1 at *
  obtain ⟨n3a, n3b, n3c, n3s⟩ := n3
  have bW := bAlloc (Below.refl w1.heap.size w1) (.cells #[.slice (some ⟨b1, o1, none⟩) 3 c, .slice b d.length e] 27)
  have hQ := heap_alloc_new w1 (.cells #[.slice (some ⟨b1, o1, none⟩) 3 c, .slice b d.length e] 27)
  have hz : (w1.alloc (.cells #[.slice (some ⟨b1, o1, none⟩) 3 c, .slice b d.length e] 27)).heap.size = w1.heap.size + 1 := by simp only [World.alloc, Array.size_push]
  rw [← hw] at bW hQ hz
  have H2 : Hid (w2.heap.size = w.heap.size + 4 ∧ w1.heap.size = w.heap.size + 3) := ⟨by omega, n3s⟩
  have S2 : Hid (w2.heap[w.heap.size]? = some (.cells #[.pointer (some ⟨g, 0, none⟩)] 94 (0, 0)) ∧ w2.heap[w.heap.size + 1 + 1]? = some (.cells #[.int .i64 3] 3 (0, 0))) := ⟨(bW.block _ (lt_of_heapA n3a)).trans n3a, (bW.block _ (lt_of_heapA n3c)).trans n3c⟩
  have Q2 : Hid (Box w2 w1.heap.size (.slice (some ⟨b1, o1, none⟩) 3 c) (.slice b d.length e) 27) := hQ
  have B2 : Hid (Below w.heap.size w w2) := bTrans Bw1 bW
  have D2 : Hid (Below w0.heap.size w0 w2) := B0.out.trans (B2.out.mono B0.out.size)
  have G2 : Hid (Sheet w2 g m (.slice none 0 0) (.slice none 0 0)) := HG.out.keep B2.out
  have hz2 : w2.cell? ⟨b1, o1, none⟩ = some (.int .i64 (cnt : Int)) := by rw [D2.out.cell (p := ⟨b1, o1, none⟩) hb1]; exact h0
  have hb2 : b1 < w2.heap.size := by have := D2.out.size; omega
  clear hw n3a n3b n3c n3s bW hQ hz Bw1
  gi_wp2_with fail
  refine wpIn_rangeFunc_ownH rfl (by decide) (gf := 90) (lb := #[.pointer (some ⟨w1.heap.size, 0, none⟩)]) rfl trivial (enters_of Tryd.func90 (by kernel_rfl) rfl)
    (cut_stops 5 w1.heap.size cnt N 2 b1 o1 c d.length e ct tl b ad cd (by decide) hc hN (by decide) hq hs1 hs2 w2 hb2 Q2.out hz2) keepsBox_t (keepsBox_b (by have := H2.out; omega)) (Below.refl _ _) (fun _ => rfl)
    (fun pre W => ∃ v, Sheet W g m (.slice none 0 0) v ∧ NewStr w2.heap.size W v (pre.map (fun k => f k.1)) ∧ Win g (g + 1) w2 W)
    (fun _ _ _ => False)
    ?hI (fun _ _ _ _ _ hs _ _ => hs)
    ⟨_, G2.out, NewStr.nil _ _, Win.refl _ _ _⟩
    (fun x a' W => ∃ Bx, w2.heap.size ≤ Bx ∧ Box W Bx (.slice tl 2 ct) (.slice (ad x.1) N (cd x.1)) 27 ∧ a' = { tmps := #[.pointer (some ⟨g, 0, none⟩), .agg #[.slice (some ⟨b1, o1, none⟩) 3 c, .slice b d.length e], .pointer (some ⟨w.heap.size, 0, none⟩), .pointer (some ⟨w.heap.size + 1, 0, none⟩), .string ⟨#[]⟩, .pointer (some ⟨w.heap.size + 1 + 1, 0, none⟩), .pointer (some ⟨Bx, 0, none⟩), undef, undef, .pointer (some ⟨w.heap.size + 1, 0, none⟩), .slice (some ⟨b1, o1, none⟩) 3 c, .int .i64 3, .int .i64 3, .bool false, undef, undef, undef, undef, undef, undef, undef, .agg #[.slice (some ⟨b1, o1, none⟩) 3 c, .slice b d.length e], .func (.func 90) #[] #[.pointer (some ⟨w1.heap.size, 0, none⟩)], .agg #[.slice tl 2 ct, .slice (ad x.1) N (cd x.1)], undef, undef, undef, undef, undef, undef, undef, undef, undef, undef, undef, undef, undef, undef, undef, undef, undef, undef, undef, undef, undef, undef, undef, undef, undef, undef, undef, undef, undef, undef, undef, undef, undef, undef, undef, undef, undef, undef], defers := [] })
    ?hAx ?assign ?body ?done ?stop
  case hI =>
    rintro pre X Y row ⟨v, hsh, hst, hwn⟩ hg hrow
    have hne : ∀ j, j < w2.heap.size → row ≠ some j := fun j hj e' => by have := (hrow j e').1; omega
    refine ⟨v, ?_, hst.grown hg (fun r' e' e2 => ?_), ?_⟩
    · unfold Sheet at hsh ⊢
      rw [hg.block g (lt_of_heapA hsh) (fun e' => hne g (by have := GL.out; have := H2.out; omega) e'.symm)]
      exact hsh
    · obtain ⟨_, o, ho, hcc⟩ := hrow r' e'
      obtain ⟨_, cs, ty, z, hh⟩ := hst.row r' e2
      rw [hh] at ho; cases ho; cases hcc
    · exact ⟨hg.os.trans hwn.os, hg.tape.trans hwn.tape, hg.output.trans hwn.output, Nat.le_trans hwn.size hg.size, fun j hj hd => by
        rw [hg.block j (Nat.lt_of_lt_of_le hj hwn.size) (fun e' => hne j hj e'.symm)]
        exact hwn.block j hj hd⟩
  case hAx =>
    rintro x a' _ X Y row ⟨Bx, h1, h2, h3⟩ hg hr'
    refine ⟨Bx, h1, ?_, h3⟩
    unfold Box at h2 ⊢
    rw [hg.block Bx (lt_of_heapA h2) (fun e' => ?_)]
    · exact h2
    · obtain ⟨_, o, ho, hcc⟩ := hr' Bx e'.symm; rw [h2] at ho; cases ho; cases hcc
  case assign =>
    rintro l pre x W K ⟨v, hsh, hst, hwn⟩ hK
    gi_wp2
    refine hK _ _ ((KeepsOthers.alloc _ _).from _) (Below.heap_alloc _ _ _ (by have := H2.out; have := hwn.size; omega)) ⟨v, hsh.keep (bAlloc (Below.refl _ _) _), hst.keep (bAlloc (Below.refl _ _) _), ?_⟩ ⟨W.heap.size, hwn.size, box_new W _ _ _, rfl⟩
    have hb := bAlloc (Below.refl W.heap.size W) (.cells #[.slice tl 2 ct, .slice (ad x.1) N (cd x.1)] 27)
    exact ⟨hb.os.trans hwn.os, hb.tape.trans hwn.tape, hb.output.trans hwn.output, Nat.le_trans hwn.size hb.size, fun j hj hd => (hb.block j (Nat.lt_of_lt_of_le hj hwn.size)).trans (hwn.block j hj hd)⟩
  case body =>
    rintro l pre x a' W hl _ ⟨v, hsh, hst, hwn⟩ ⟨Bx, hBx, hX, rfl⟩ hlt
    have y0 := hX.c0
    have y1 := hX.c1
    have sW : W.heap[w.heap.size]? = some (.cells #[.pointer (some ⟨g, 0, none⟩)] 94 (0, 0)) := (hwn.block _ (lt_of_heapA S2.out.1) (by have := GL.out; omega)).trans S2.out.1
    have rW : W.heap[w.heap.size + 1 + 1]? = some (.cells #[.int .i64 3] 3 (0, 0)) := (hwn.block _ (lt_of_heapA S2.out.2) (by have := GL.out; omega)).trans S2.out.2
    have u0 : W.cell? ⟨w.heap.size, 0, none⟩ = some (.pointer (some ⟨g, 0, none⟩)) := cell_at sW rfl
    have DW : Hid (Below w0.heap.size w0 W) := D2.out.trans (hwn.below hng D2.out.size)
    have HSH : Hid (Sheet W g m (.slice none 0 0) v) := hsh
    gi_wp2_with fail
    refine ⟨trivial, (CallsIn.inRound l (callsIn_wide.2 (HS.out x.1 x.2 W v DW.out HSH.out))).mono ?_⟩
    rintro rr w3 ⟨rfl, hb⟩
    obtain ⟨va, vc, rfl⟩ := hst.slice
    rw [List.length_map] at hst hsh HSH
    have B3 : Hid (Below W.heap.size W w3) := hb
    have N3 : Hid (NewStr w2.heap.size w3 (.slice va pre.length vc) (pre.map (fun k => f k.1))) := by have := hst.keep hb; exact this
    have GW : Hid (w2.heap.size ≤ W.heap.size ∧ W.heap.size ≤ w3.heap.size) := ⟨hwn.size, hb.size⟩
    have n4 : NewStr w2.heap.size w3.drew (.slice va ((pre.map (fun k => f k.1)).length) vc) (pre.map (fun k => f k.1)) := by rw [List.length_map]; exact N3.out.keep ((Below.refl _ _).drew)
    obtain ⟨a5, c5, w5, r5, n5, b5, q5⟩ := growStr (f x.1) n4 (show w2.heap.size ≤ w3.heap.size by have := GW.out; omega) (by rw [List.length_map]; omega)
    rw [List.length_map] at r5 n5 q5
    have R5 : Hid (∀ ty, (Builtin.append_ #[56, 56] ty #[.slice va pre.length vc, .slice (some ⟨w3.heap.size, 0, none⟩) 1 1]).run Tryd.prog (w3.drew.alloc (.cells #[.string (f x.1)] 9)) = .ok (.slice a5 (pre.length + 1) c5) w5) := r5
    have N5 : Hid (NewStr w2.heap.size w5 (.slice a5 (pre.length + 1) c5) (pre.map (fun k => f k.1) ++ [f x.1])) := n5
    have B35 : Hid (Below w2.heap.size w3 w5) := (show Below w2.heap.size w3 w3.drew from (Below.refl _ _).drew).trans b5
    have B25 : Hid (Below w2.heap.size W w5) := (hb.mono hwn.size).trans B35.out
    have G3 : Hid (Sheet w3 g m (.slice none 0 0) (.slice va pre.length vc)) := hsh.keep hb
    have G5 : Hid (Sheet w5 g m (.slice none 0 0) (.slice va pre.length vc)) := (B35.out.block g (by have := GL.out; have := H2.out; omega)).trans G3.out
    have SKB : Hid (∀ W', Below w2.heap.size W W' → W'.cell? ⟨w.heap.size, 0, none⟩ = some (.pointer (some ⟨g, 0, none⟩)) ∧ W'.cell? ⟨w.heap.size + 1 + 1, 0, none⟩ = some (.int .i64 3)) := fun W' hb' =>
      ⟨(hb'.cell (p := ⟨w.heap.size, 0, none⟩) (by have := H2.out; show w.heap.size < _; omega)).trans u0, (hb'.cell (p := ⟨w.heap.size + 1 + 1, 0, none⟩) (by have := H2.out; show w.heap.size + 1 + 1 < _; omega)).trans (cell_at rW rfl)⟩
    have S3 := SKB.out w3.drew ((hb.mono hwn.size).drew)
    have SA : ∀ O : Obj, (w3.drew.alloc O).cell? ⟨w.heap.size, 0, none⟩ = some (.pointer (some ⟨g, 0, none⟩)) ∧ (w3.drew.alloc O).cell? ⟨w.heap.size + 1 + 1, 0, none⟩ = some (.int .i64 3) := fun O => SKB.out _ (((hb.mono hwn.size).drew).alloc (by have := GW.out; show w2.heap.size ≤ w3.heap.size; omega) O)
    have S5 := SKB.out w5 B25.out
    have NE : w.heap.size ≠ g ∧ w.heap.size + 1 + 1 ≠ g := ⟨by have := GL.out; omega, by have := GL.out; omega⟩
    have S6 : (w5.setCell ⟨g, 12, none⟩ (.slice a5 (pre.length + 1) c5)).cell? ⟨w.heap.size, 0, none⟩ = some (.pointer (some ⟨g, 0, none⟩)) ∧ (w5.setCell ⟨g, 12, none⟩ (.slice a5 (pre.length + 1) c5)).cell? ⟨w.heap.size + 1 + 1, 0, none⟩ = some (.int .i64 3) := ⟨(World.cell?_of_block (heap_setCell_other _ _ _ _ NE.1)).trans S5.1, (World.cell?_of_block (heap_setCell_other _ _ _ _ NE.2)).trans S5.2⟩
    have v3 : w3.drew.cell? ⟨g, 12, none⟩ = some (.slice va pre.length vc) := cell_at G3.out rfl
    have vA : ∀ O : Obj, (w3.drew.alloc O).cell? ⟨g, 12, none⟩ = some (.slice va pre.length vc) := fun O => ((bAlloc (Below.refl w3.drew.heap.size w3.drew) O).cell (p := ⟨g, 12, none⟩) (lt_of_heapA G3.out)).trans v3
    have vB : ∀ O : Obj, (w3.alloc O).cell? ⟨g, 12, none⟩ = some (.slice va pre.length vc) := fun O => vA O
    have v5 : w5.cell? ⟨g, 12, none⟩ = some (.slice va pre.length vc) := cell_at G5.out rfl
    have f5 : w5.frozen? ⟨g, 12, none⟩ = false := free_at G5.out _
    have LEAF : Hid (KeepsFrom w2.heap.size W (w5.setCell ⟨g, 12, none⟩ (.slice a5 (pre.length + 1) c5)) ∧ KeepsBox w1.heap.size W (w5.setCell ⟨g, 12, none⟩ (.slice a5 (pre.length + 1) c5)) ∧ ∃ v, Sheet (w5.setCell ⟨g, 12, none⟩ (.slice a5 (pre.length + 1) c5)) g m (.slice none 0 0) v ∧ NewStr w2.heap.size (w5.setCell ⟨g, 12, none⟩ (.slice a5 (pre.length + 1) c5)) v ((pre ++ [x]).map (fun k => f k.1)) ∧ Win g (g + 1) w2 (w5.setCell ⟨g, 12, none⟩ (.slice a5 (pre.length + 1) c5))) := by
      refine ⟨?_, ?_, _, heap_setCell_same w5 g 12 _ _ _ G5.out, ?_, ?_⟩
      · have k1 : KeepsOthers W w3.drew := keeps_below hb.drew
        have k2 : KeepsOthers (w3.drew.alloc (.cells #[.string (f x.1)] 9)) w5 := KeepsOthers.of_grownBy q5 (fun j o hj ho => by
          obtain ⟨_, cs, ty, z, hh⟩ := n4.row j (by rw [List.length_map]; exact hj)
          have h1 : (w3.drew.alloc (.cells #[.string (f x.1)] 9)).heap[j]? = w3.drew.heap[j]? := Below.heap_alloc _ _ _ (lt_of_heapA hh)
          rw [h1, hh] at ho
          cases ho
          rfl)
        exact (((k1.trans (KeepsOthers.alloc _ _)).trans k2).trans (KeepsOthers.setCell _ _ _)).from _
      · have hq : w1.heap.size < w2.heap.size := by have := H2.out; omega
        show (w5.setCell _ _).heap[w1.heap.size]? = W.heap[w1.heap.size]?
        rw [heap_setCell_other _ _ _ _ (show w1.heap.size ≠ g by have := GL.out; have := H2.out; omega)]
        exact B25.out.block _ hq
      · rw [List.map_append]
        exact N5.out.grown (grown_set w5 g 12 (.slice a5 (pre.length + 1) c5)) (fun r' e' e2 => by
          have h1 := (N5.out.row r' e2).1
          have := GL.out; have := H2.out
          cases e'
          omega)
      · have hw5 : Win g (g + 1) w2 w5 := ⟨B25.out.os.trans hwn.os, B25.out.tape.trans hwn.tape, B25.out.output.trans hwn.output, Nat.le_trans hwn.size B25.out.size, fun j hj hd => (B25.out.block j hj).trans (hwn.block j hj hd)⟩
        exact hw5.trans (win_setCell _ _ _ _)
    clear hb hst hsh hwn HSH r5 n5 b5 q5 n4 y0 y1 sW rW u0
    gi_wp2_with fail
    refine region_in (S := (fun w' => w'.cell? ⟨w.heap.size, 0, none⟩ = some (.pointer (some ⟨g, 0, none⟩)) ∧ w'.cell? ⟨w.heap.size + 1 + 1, 0, none⟩ = some (.int .i64 3))) (fun ⟨_, _, h⟩ => h) (noDefer_spec (by kernel_rfl)) (by kernel_rfl) ?_ (fun hHeld0 => ?_)
    · (try dsimp only); (first | exact S3 | exact SA _ | exact S5 | exact S6)
    refine wpAnyH_take (i := 0) (oi := _) (v := ?_) rfl (by kernel_rfl) (by kernel_rfl) (by kernel_rfl) (fun _ _ _ h => h) (Or.inl ⟨by rfl, ?_⟩) (by assumption) ?_
    rotate_left
    · intro wS hSw; (try dsimp only at hSw); go_simp; (try with_reducible rfl)
    try simp only [Act.put, List.setIfInBounds_toArray, List.set_cons_zero, List.set_cons_succ]
    refine wpAnyH_take (i := 1) (oi := _) (v := ?_) rfl (by kernel_rfl) (by kernel_rfl) (by kernel_rfl) (fun _ _ _ h => h) (Or.inl ⟨by rfl, ?_⟩) (by assumption) ?_
    rotate_left
    · intro wS hSw; (try dsimp only at hSw); go_simp; (try with_reducible rfl)
    try simp only [Act.put, List.setIfInBounds_toArray, List.set_cons_zero, List.set_cons_succ]
    refine wpAnyH_take (i := 2) (oi := _) (v := ?_) rfl (by kernel_rfl) (by kernel_rfl) (by kernel_rfl) (fun _ _ _ h => h) (Or.inl ⟨by rfl, ?_⟩) (by assumption) ?_
    rotate_left
    · intro wS hSw; (try dsimp only at hSw); go_simp; (try with_reducible rfl)
    try simp only [Act.put, List.setIfInBounds_toArray, List.set_cons_zero, List.set_cons_succ]
    refine wpAnyH_take (i := 3) (oi := _) (v := ?_) rfl (by kernel_rfl) (by kernel_rfl) (by kernel_rfl) (fun _ _ _ h => h) (Or.inl ⟨by rfl, ?_⟩) (by assumption) ?_
    rotate_left
    · intro wS hSw; (try dsimp only at hSw); go_simp; (try with_reducible rfl)
    try simp only [Act.put, List.setIfInBounds_toArray, List.set_cons_zero, List.set_cons_succ]
    refine wpAnyH_take (i := 4) (oi := _) (v := ?_) rfl (by kernel_rfl) (by kernel_rfl) (by kernel_rfl) (fun _ _ _ h => h) (Or.inl ⟨by rfl, ?_⟩) (by assumption) ?_
    rotate_left
    · intro wS hSw; (try dsimp only at hSw); go_simp; (try with_reducible rfl)
    try simp only [Act.put, List.setIfInBounds_toArray, List.set_cons_zero, List.set_cons_succ]
    refine wpAnyH_take (i := 5) (oi := _) (v := ?_) rfl (by kernel_rfl) (by kernel_rfl) (by kernel_rfl) (fun _ _ _ h => h) (Or.inl ⟨by rfl, ?_⟩) (by assumption) ?_
    rotate_left
    · intro wS hSw; (try dsimp only at hSw); go_simp; (try with_reducible rfl)
    try simp only [Act.put, List.setIfInBounds_toArray, List.set_cons_zero, List.set_cons_succ]
    refine wpAnyH_take (i := 6) (oi := _) (v := ?_) rfl (by kernel_rfl) (by kernel_rfl) (by kernel_rfl) (fun _ _ _ h => h) (Or.inl ⟨by rfl, ?_⟩) (by assumption) ?_
    rotate_left
    · intro wS hSw; (try dsimp only at hSw); go_simp; (try with_reducible rfl)
    try simp only [Act.put, List.setIfInBounds_toArray, List.set_cons_zero, List.set_cons_succ]
    refine wpAnyH_take (i := 8) (oi := _) (v := ?_) rfl (by kernel_rfl) (by kernel_rfl) (by kernel_rfl) (fun _ _ _ h => h) (Or.inl ⟨by rfl, ?_⟩) (by assumption) ?_
    rotate_left
    · intro wS hSw; (try dsimp only at hSw); go_simp; (try with_reducible rfl)
    try simp only [Act.put, List.setIfInBounds_toArray, List.set_cons_zero, List.set_cons_succ]
    refine wpAnyH_take (i := 11) (oi := _) (v := ?_) rfl (by kernel_rfl) (by kernel_rfl) (by kernel_rfl) (fun _ _ _ h => h) (Or.inl ⟨by rfl, ?_⟩) (by assumption) ?_
    rotate_left
    · intro wS hSw; (try dsimp only at hSw); go_simp; (try with_reducible rfl)
    try simp only [Act.put, List.setIfInBounds_toArray, List.set_cons_zero, List.set_cons_succ]
    refine wpAnyH_take (i := 12) (oi := _) (v := ?_) rfl (by kernel_rfl) (by kernel_rfl) (by kernel_rfl) (fun _ _ _ h => h) (Or.inl ⟨by rfl, ?_⟩) (by assumption) ?_
    rotate_left
    · intro wS hSw; (try dsimp only at hSw); go_simp; (try with_reducible rfl)
    try simp only [Act.put, List.setIfInBounds_toArray, List.set_cons_zero, List.set_cons_succ]
    refine wpAnyH_ready (rs := [7, 9]) (by kernel_rfl) (by simp) ?_
    refine AllReadyH.cons (o := _) rfl (fun K hK => ?_) ?_
    · skip
      go_simp
      refine hK.out _ _ ?_ (fun hHeld1 => ?_)
      · (try dsimp only); (first | exact S3 | exact SA _ | exact S5 | exact S6)
      clear hK K hHeld0
      try simp only [Act.put, List.setIfInBounds_toArray, List.set_cons_zero, List.set_cons_succ]
      refine wpAnyH_ready (rs := [9]) (by kernel_rfl) (by simp) ?_
      refine AllReadyH.cons (o := _) rfl (fun K hK => ?_) AllReadyH.nil
      go_simp
      refine hK.out _ _ ?_ (fun hHeld2 => ?_)
      · (try dsimp only); (first | exact S3 | exact SA _ | exact S5 | exact S6)
      clear hK K hHeld1
      try simp only [Act.put, List.setIfInBounds_toArray, List.set_cons_zero, List.set_cons_succ]
      refine wpAnyH_ready (rs := [10]) (by kernel_rfl) (by simp) ?_
      refine AllReadyH.cons (o := _) rfl (fun K hK => ?_) AllReadyH.nil
      refine step_append_ty (by rfl) (.tmp 34) (.tmp 36) 56 56 (by rfl) _ _ _ (by rfl) (by rfl) (R5.out _) ?_
      refine hK.out _ _ ?_ (fun hHeld3 => ?_)
      · (try dsimp only); (first | exact S3 | exact SA _ | exact S5 | exact S6)
      clear hK K hHeld2
      try simp only [Act.put, List.setIfInBounds_toArray, List.set_cons_zero, List.set_cons_succ]
      refine wpAnyH_ready (rs := [13]) (by kernel_rfl) (by simp) ?_
      refine AllReadyH.cons (o := _) rfl (fun K hK => ?_) AllReadyH.nil
      go_simp
      refine hK.out _ _ ?_ (fun hHeld4 => ?_)
      · (try dsimp only); (first | exact S3 | exact SA _ | exact S5 | exact S6)
      clear hK K hHeld3
      try simp only [Act.put, List.setIfInBounds_toArray, List.set_cons_zero, List.set_cons_succ]
      refine wpAnyH_ready (rs := [14]) (by kernel_rfl) (by simp) ?_
      refine AllReadyH.cons (o := _) rfl (fun K hK => ?_) AllReadyH.nil
      go_simp
      refine hK.out _ _ ?_ (fun hHeld5 => ?_)
      · (try dsimp only); (first | exact S3 | exact SA _ | exact S5 | exact S6)
      clear hK K hHeld4
      try simp only [Act.put, List.setIfInBounds_toArray, List.set_cons_zero, List.set_cons_succ]
      refine wpAnyH_done (by kernel_rfl) ?_ _
      gi_wp2
      exact LEAF.out
    refine AllReadyH.cons (o := _) rfl (fun K hK => ?_) AllReadyH.nil
    go_simp
    refine hK.out _ _ ?_ (fun hHeld6 => ?_)
    · (try dsimp only); (first | exact S3 | exact SA _ | exact S5 | exact S6)
    clear hK K hHeld0
    try simp only [Act.put, List.setIfInBounds_toArray, List.set_cons_zero, List.set_cons_succ]
    refine wpAnyH_ready (rs := [7]) (by kernel_rfl) (by simp) ?_
    refine AllReadyH.cons (o := _) rfl (fun K hK => ?_) AllReadyH.nil
    go_simp
    refine hK.out _ _ ?_ (fun hHeld7 => ?_)
    · (try dsimp only); (first | exact S3 | exact SA _ | exact S5 | exact S6)
    clear hK K hHeld6
    try simp only [Act.put, List.setIfInBounds_toArray, List.set_cons_zero, List.set_cons_succ]
    refine wpAnyH_ready (rs := [10]) (by kernel_rfl) (by simp) ?_
    refine AllReadyH.cons (o := _) rfl (fun K hK => ?_) AllReadyH.nil
    refine step_append_ty (by rfl) (.tmp 34) (.tmp 36) 56 56 (by rfl) _ _ _ (by rfl) (by rfl) (R5.out _) ?_
    refine hK.out _ _ ?_ (fun hHeld8 => ?_)
    · (try dsimp only); (first | exact S3 | exact SA _ | exact S5 | exact S6)
    clear hK K hHeld7
    try simp only [Act.put, List.setIfInBounds_toArray, List.set_cons_zero, List.set_cons_succ]
    refine wpAnyH_ready (rs := [13]) (by kernel_rfl) (by simp) ?_
    refine AllReadyH.cons (o := _) rfl (fun K hK => ?_) AllReadyH.nil
    go_simp
    refine hK.out _ _ ?_ (fun hHeld9 => ?_)
    · (try dsimp only); (first | exact S3 | exact SA _ | exact S5 | exact S6)
    clear hK K hHeld8
    try simp only [Act.put, List.setIfInBounds_toArray, List.set_cons_zero, List.set_cons_succ]
    refine wpAnyH_ready (rs := [14]) (by kernel_rfl) (by simp) ?_
    refine AllReadyH.cons (o := _) rfl (fun K hK => ?_) AllReadyH.nil
    go_simp
    refine hK.out _ _ ?_ (fun hHeld10 => ?_)
    · (try dsimp only); (first | exact S3 | exact SA _ | exact S5 | exact S6)
    clear hK K hHeld9
    try simp only [Act.put, List.setIfInBounds_toArray, List.set_cons_zero, List.set_cons_succ]
    refine wpAnyH_done (by kernel_rfl) ?_ _
    gi_wp2
    exact LEAF.out
  case done =>
    rintro D' zs W hD rfl ⟨v, hsh, hst, hwn⟩ hK
    have sW : W.heap[w.heap.size]? = some (.cells #[.pointer (some ⟨g, 0, none⟩)] 94 (0, 0)) := (hwn.block _ (lt_of_heapA S2.out.1) (by have := GL.out; omega)).trans S2.out.1
    have rW : W.heap[w.heap.size + 1 + 1]? = some (.cells #[.int .i64 3] 3 (0, 0)) := (hwn.block _ (lt_of_heapA S2.out.2) (by have := GL.out; omega)).trans S2.out.2
    have u0 : W.cell? ⟨w.heap.size, 0, none⟩ = some (.pointer (some ⟨g, 0, none⟩)) := cell_at sW rfl
    have u1 : W.cell? ⟨w.heap.size + 1 + 1, 0, none⟩ = some (.int .i64 3) := cell_at rW rfl
    have u2 : W.cell? ⟨g, 12, none⟩ = some v := cell_at hsh rfl
    have u3 : W.cell? ⟨g, 7, none⟩ = some (.string ⟨#[10, 10]⟩) := cell_at hsh rfl
    have UL : Hid (w.heap.size < W.heap.size ∧ w.heap.size + 1 + 1 < W.heap.size ∧ g < W.heap.size) := ⟨lt_of_heapA sW, lt_of_heapA rW, lt_of_heapA hsh⟩
    have SK : Hid (∀ W', Below W.heap.size W W' → W'.cell? ⟨w.heap.size, 0, none⟩ = some (.pointer (some ⟨g, 0, none⟩)) ∧ W'.cell? ⟨w.heap.size + 1 + 1, 0, none⟩ = some (.int .i64 3) ∧ W'.cell? ⟨g, 12, none⟩ = some v ∧ W'.cell? ⟨g, 7, none⟩ = some (.string ⟨#[10, 10]⟩)) := fun W' hb =>
      ⟨(hb.cell (p := ⟨w.heap.size, 0, none⟩) UL.out.1).trans u0, (hb.cell (p := ⟨w.heap.size + 1 + 1, 0, none⟩) UL.out.2.1).trans u1, (hb.cell (p := ⟨g, 12, none⟩) UL.out.2.2).trans u2, (hb.cell (p := ⟨g, 7, none⟩) UL.out.2.2).trans u3⟩
    have CJ : Hid (∀ W', Below W.heap.size W W' → Calls Tryd.prog 56 #[v, .string ⟨#[10, 10]⟩] W' fun e w' => e = .returned (.string (jnS ⟨#[10, 10]⟩ ((List.finRange cnt).map (fun k => f k.1)))) ∧ Below W'.heap.size W' w') := fun W' hb =>
      joinS (hst.keep hb) _ (by decide) (by simp; omega) (fun x hx => by
        simp only [List.mem_map] at hx
        obtain ⟨k, _, rfl⟩ := hx
        exact HF.out k.1 k.2)
    gi_wp2_with fail
    refine wpIn_wide.2 ?_
    go_region_held3 (fun w' => w'.cell? ⟨w.heap.size, 0, none⟩ = some (.pointer (some ⟨g, 0, none⟩)) ∧ w'.cell? ⟨w.heap.size + 1 + 1, 0, none⟩ = some (.int .i64 3) ∧ w'.cell? ⟨g, 12, none⟩ = some v ∧ w'.cell? ⟨g, 7, none⟩ = some (.string ⟨#[10, 10]⟩))
      ((refine SK.out _ ?_; (repeat first | with_reducible exact HB2.out | with_reducible exact Below.refl _ _ | with_reducible refine Below.drew ?_)))
      ((go_at_call 56; refine (CJ.out _ ((Below.refl W.heap.size W).drew)).mono ?_; rintro r w8 ⟨rfl, hb⟩; have HB2 : Hid (Below W.heap.size W w8) := bTrans ((Below.refl W.heap.size W).drew) hb; clear hb))
    all_goals
      have HSH : Hid (Sheet w8 g m (.slice none 0 0) v) := hsh.keep HB2.out
      have c8 : ∀ j u, (shC m (.slice none 0 0) (.slice none 0 0) (.slice none 0 0) v)[j]? = some u → w8.drew.cell? ⟨g, j, none⟩ = some u := fun j u h => cell_at HSH.out h
      have z9 : ∀ j, j < 4 → (w8.drew.cell? ⟨g, 9 + j, none⟩).isSome = true := fun j hj => by
        have : j = 0 ∨ j = 1 ∨ j = 2 ∨ j = 3 := by omega
        rcases this with rfl | rfl | rfl | rfl <;> (rw [c8 _ _ rfl]; rfl)
      have RC := fun ty => Lib.run_clear_slice (P := Tryd.prog) w8.drew 98 56 ty (.slice none 0 0) Tryd.underlying98 (fun w => by kernel_rfl) rfl rfl g 9 4 4 (by decide) z9 (fun j _ => free_at HSH.out _)
      have SH9 : Sheet (w8.drew.setCells g 9 (List.replicate 4 (.slice none 0 0))) g m (.slice none 0 0) (.slice none 0 0) := by
        have h0 : w8.drew.heap[g]? = some (.cells (shC m (.slice none 0 0) (.slice none 0 0) (.slice none 0 0) v) 59 (0, 0)) := HSH.out
        have h1 := heap_setCell_same _ g 9 _ _ (.slice none 0 0) h0
        have h2 := heap_setCell_same _ g 10 _ _ (.slice none 0 0) h1
        have h3 := heap_setCell_same _ g 11 _ _ (.slice none 0 0) h2
        have h4 := heap_setCell_same _ g 12 _ _ (.slice none 0 0) h3
        exact h4
      have WN : Win g (g + 1) w8.drew (w8.drew.setCells g 9 (List.replicate 4 (.slice none 0 0))) := ((((win_setCell _ g 9 _).trans (win_setCell _ g 10 _)).trans (win_setCell _ g 11 _)).trans (win_setCell _ g 12 _))
      generalize w8.drew.setCells g 9 (List.replicate 4 (.slice none 0 0)) = w9 at *
      have B8 : Hid (Below W.heap.size W w8) := HB2.out
      have W9 : Hid (Win g (g + 1) w2 w9) := by
        have h1 : Win g (g + 1) w2 w8.drew := ⟨(show w8.drew.os = W.os from B8.out.os).trans hwn.os, B8.out.drew.tape.trans hwn.tape, B8.out.drew.output.trans hwn.output, Nat.le_trans hwn.size B8.out.size, fun j hj hd => (B8.out.drew.block j (Nat.lt_of_lt_of_le hj hwn.size)).trans (hwn.block j hj hd)⟩
        exact h1.trans WN
      have K9 : Hid (w9.heap[D']? = some (.deferred (some []))) := by
        have h1 : w8.drew.heap[D']? = some (.deferred (some [])) := (B8.out.drew.block D' (lt_of_heapA hK)).trans hK
        exact (WN.block D' (lt_of_heapA h1) (by have := GL.out; have := H2.out; omega)).trans h1
      have SG9 : Hid (Sheet w9 g m (.slice none 0 0) (.slice none 0 0)) := SH9
      have RC9 : Hid (∀ ty, (Builtin.clear_ #[98] ty #[.slice (some ⟨g, 9, none⟩) 4 4]).run Tryd.prog w8.drew = .ok (.tuple #[]) w9) := RC
      have s8 := SK.out w8.drew B8.out.drew
      have S8 : w8.drew.cell? ⟨w.heap.size, 0, none⟩ = some (.pointer (some ⟨g, 0, none⟩)) ∧ w8.drew.cell? ⟨w.heap.size + 1 + 1, 0, none⟩ = some (.int .i64 3) := ⟨s8.1, s8.2.1⟩
      have S9 : w9.cell? ⟨w.heap.size, 0, none⟩ = some (.pointer (some ⟨g, 0, none⟩)) ∧ w9.cell? ⟨w.heap.size + 1 + 1, 0, none⟩ = some (.int .i64 3) := ⟨cell_at ((W9.out.block _ (lt_of_heapA S2.out.1) (by have := GL.out; omega)).trans S2.out.1) rfl, cell_at ((W9.out.block _ (lt_of_heapA S2.out.2) (by have := GL.out; omega)).trans S2.out.2) rfl⟩
      have RS := texts_cut4 g
      clear SH9 WN RC z9 c8 HSH s8 hsh hst hwn sW rW u0 u1 u2 u3 SK CJ
      gi_wp2_with fail
      refine wpIn_wide.2 ?_
      go_region_held3 (fun w' => w'.cell? ⟨w.heap.size, 0, none⟩ = some (.pointer (some ⟨g, 0, none⟩)) ∧ w'.cell? ⟨w.heap.size + 1 + 1, 0, none⟩ = some (.int .i64 3))
        ((first | exact S8 | exact S9))
        ((refine step_clear_run (by rfl) (.tmp 60) 98 (by rfl) _ _ (by rfl) (RC9.out _) ?_))
      all_goals
        have F9 : Below w.heap.size w (w9.putObj D' (.deferred none)) := by
          have hd : w2.heap.size ≤ D' := hD
          refine ⟨W9.out.os.trans B2.out.os, W9.out.tape.trans B2.out.tape, W9.out.output.trans B2.out.output, ?_, fun j hj => ?_⟩
          · have h1 := B2.out.size
            have h2 := W9.out.size
            show w.heap.size ≤ (w9.putObj D' (.deferred none)).heap.size
            have : (w9.putObj D' (.deferred none)).heap.size = w9.heap.size := by simp [World.putObj]
            omega
          · have h1 : (w9.putObj D' (.deferred none)).heap[j]? = w9.heap[j]? := World.putObj_heap_other (by have := H2.out; omega)
            show (w9.putObj D' (.deferred none)).heap[j]? = w.heap[j]?
            rw [h1]
            by_cases e : j = g
            · subst e
              exact SG9.out.trans HG.out.symm
            · rw [W9.out.block j (by have := H2.out; omega) (by omega)]
              exact B2.out.block j hj
        gi_wp2
        refine ⟨by simp, .inl ⟨_, _, rfl, run_takeDeferred K9.out, ?_⟩⟩
        exact ⟨_, results_tmp rfl _ _ _, rfl, F9⟩
  case stop =>
    rintro D' c' pre W _ _ h _
    exact h.elim
end Go.Proofs.YtcaidhmolnnikaaDoor
namespace Go.Proofs.YtcaidhmolnnikaaDoor
open Go.RowKit
set_option linter.unusedVariables false
set_option linter.unusedSimpArgs false
set_option maxRecDepth 20000 in
set_option maxHeartbeats 2000000 in
/-- The program's ShowWide. -/
theorem showWide_impl {d : List Int} {b : Option Addr} {w : World} (e : Nat) (h : Ints w b d) (hd : d.length ≤ 1048576) (ht : TabW w) :
    Calls Tryd.prog 66 #[.slice b d.length e] w fun e w' => e = .returned (.int .i64 (wideV d)) ∧ Below w.heap.size w w' := by
  have HJ : Hid (Ints w b d) := h
  have HTB : Hid (TabW w) := ht
  have CN : Hid (Calls Tryd.prog 41 #[.slice b d.length e] w fun e w' => e = .returned (.bool (d.all ok)) ∧ w' = w) := allRight_impl e h hd
  unfold wideV
  clear h ht
  cases hall : d.all ok
  · rw [hall] at CN
    rw [if_neg (by decide)]
    clear hall
    go_enter Tryd.func66, Tryd.ntmps66
    go_wp2_with fail
    refine CN.out.mono ?_
    rintro r w' ⟨rfl, hw⟩
    subst w'
    go_wp2
    go_ret
    exact ⟨rfl, Below.refl _ _⟩
  · have HA : Hid (d.all ok = true) := hall
    rw [hall] at CN
    rw [if_pos rfl]
    clear hall
    obtain ⟨WV, hWV⟩ : ∃ WV, WV = wideN d d.length := ⟨_, rfl⟩
    have HW : Hid (WV = wideN d d.length) := hWV
    rw [← hWV]
    clear hWV
    go_enter Tryd.func66, Tryd.ntmps66
    go_wp2_with fail
    refine CN.out.mono ?_
    rintro r w' ⟨rfl, hw⟩
    subst w'
    go_wp2
    go_loopw [3, 11] (fun n i w' => ∃ k : Nat, k ≤ d.length ∧ i = .int .i64 (k : Int) ∧ n = .int .i64 (wideN d k : Int) ∧ Below w.heap.size w w') (fun _ i _ => d.length - (intOf i).toNat)
    case atStart => exact ⟨0, by omega, rfl, rfl, Below.refl _ _⟩
    case round =>
      obtain ⟨k, hk, rfl, rfl, hb⟩ := hrel
      have BK : Hid (Below w.heap.size w wr) := hb
      clear hb
      by_cases hlt : (k : Int) < (d.length : Int)
      · have L : k < d.length := by omega
        obtain ⟨b1, o1, rfl, _, c1⟩ := (HJ.out.keep BK.out).at L
        have okx := ok_at HA.out L
        have CD : Hid (Calls Tryd.prog 73 #[.int .i64 (d.getD k 0)] wr fun e w' => e = .returned (.string (digB (d.getD k 0))) ∧ Below wr.heap.size wr w') := numberWord_impl okx (HTB.out.on BK.out)
        have EW : Hid (max (wideN d k) (digB (d.getD k 0)).size = wideN d (k + 1)) := rfl
        have sz := digB_size okx
        have wz := wideN_le HA.out hk
        generalize d.getD k 0 = x at *
        generalize digB x = s at *
        generalize wideN d k = n at *
        clear L okx
        go_wp2_with fail
        refine CD.out.mono ?_
        rintro r w2 ⟨rfl, hb⟩
        have B2 : Hid (Below w.heap.size w w2) := bTrans BK.out hb
        clear hb CD c1
        go_wp2
        go_roundw
        case rel => exact ⟨k + 1, by omega, by go_num, by rw [← EW.out]; first | rfl | (congr 1; omega), B2.out⟩
        case measure => simp [intOf]; omega
      · obtain rfl : k = d.length := by omega
        rw [← HW.out]
        go_wp2
        go_ret
        exact ⟨rfl, BK.out⟩
end Go.Proofs.YtcaidhmolnnikaaDoor
namespace Go.Proofs.YtcaidhmolnnikaaDoor
open Go.RowKit
set_option linter.unusedVariables false
set_option linter.unusedSimpArgs false
theorem finRange_val (n : Nat) : (List.finRange n).map (fun k => k.1) = List.range n := by
  apply List.ext_getElem
  · simp
  · intro i h1 h2
    simp
theorem finRange_flat (n : Nat) (f : Nat → List (List Int)) : (List.finRange n).flatMap (fun k => f k.1) = (List.range n).flatMap f := by
  rw [← finRange_val, List.flatMap_map]
theorem slice_tail3 (W : World) (b o n c : Nat) (hc : n + 1 ≤ c) : (Instr.slice 22 (.slice (some ⟨b, o, none⟩) (n + 1) c) (some (.int .i64 1)) (some (.int .i64 ((n : Int) + 1))) (some (.int .i64 ((n : Int) + 1)))).run Tryd.prog W = .ok (.slice (if n = 0 then some ⟨b, o, none⟩ else some ⟨b, o + 1, none⟩) n n) W := by
  have hs : (sizeOf 3).run Tryd.prog W = .ok 1 W := by kernel_rfl
  have he : Tryd.prog.elem 22 = 3 := by kernel_rfl
  rw [run_slice_lhm (P := Tryd.prog) (w := W) 22 (some ⟨b, o, none⟩) (n + 1) c (by rw [he]; exact Tryd.underlying22) .i64 .i64 .i64 1 ((n : Int) + 1) ((n : Int) + 1) (by decide) (by omega) (by omega) (by omega), he, hs]
  have e1 : ((n : Int) + 1).toNat = n + 1 := by omega
  by_cases h0 : n = 0
  · subst h0; simp [Result.andThen, sliced, Addr.add]
  · simp [Result.andThen, sliced, Addr.add, e1, h0]
theorem slice_cut3 (W : World) (b : Option Addr) (n e M R N : Nat) (h : M + N = R) (hR : R ≤ e) : (Instr.slice 22 (.slice b n e) (some (.int .i64 (M : Int))) (some (.int .i64 (R : Int))) (some (.int .i64 (R : Int)))).run Tryd.prog W = .ok (.slice (if N = 0 then b else b.map (·.add M)) N N) W := by
  have hs : (sizeOf 3).run Tryd.prog W = .ok 1 W := by kernel_rfl
  have he : Tryd.prog.elem 22 = 3 := by kernel_rfl
  rw [run_slice_lhm (P := Tryd.prog) (w := W) 22 b n e (by rw [he]; exact Tryd.underlying22) .i64 .i64 .i64 (M : Int) (R : Int) (R : Int) (by omega) (by omega) (by omega) (by omega), he, hs]
  have e2 : R - M = N := by omega
  by_cases h0 : N = 0
  · have e3 : R = M := by omega
    simp [Result.andThen, sliced, h0, e3]
  · have e3 : ¬ R = M := by omega
    simp [Result.andThen, sliced, h0, e3, e2]
theorem cut_facts {n0 : Int} {t d : List Int} {w0 : World} {v : Value} (h : ArrI w0 v (n0 :: t) d) (ho : arrOk (n0 :: t) d = true) :
    ∃ (b1 o1 c e ct cnt N : Nat) (tl b : Option Addr) (ad : Nat → Option Addr) (cd : Nat → Nat), v = .agg #[.slice (some ⟨b1, o1, none⟩) (t.length + 1) c, .slice b d.length e] ∧ rowN (n0 :: t) d = cnt ∧ cnt ≤ 300 ∧ N ≤ 300 ∧
      (0 < cnt → (d.length : Int) / (cnt : Int) = N) ∧
      (∀ W, (Instr.slice 22 (.slice (some ⟨b1, o1, none⟩) (t.length + 1) c) (some (.int .i64 1)) (some (.int .i64 ((t.length : Int) + 1))) (some (.int .i64 ((t.length : Int) + 1)))).run Tryd.prog W = .ok (.slice tl t.length ct) W) ∧
      (∀ (k M R : Nat) W, k < cnt → k * N = M → (k + 1) * N = R → (Instr.slice 22 (.slice b d.length e) (some (.int .i64 (M : Int))) (some (.int .i64 (R : Int))) (some (.int .i64 (R : Int)))).run Tryd.prog W = .ok (.slice (ad k) N (cd k)) W) ∧
      b1 < w0.heap.size ∧ w0.cell? ⟨b1, o1, none⟩ = some (.int .i64 (cnt : Int)) ∧
      ∀ k, k < cnt → ArrI w0 (.agg #[.slice tl t.length ct, .slice (ad k) N (cd k)]) t ((rowsF (n0 :: t) d).getD (2 * k + 1) []) := by
  obtain ⟨a, c, b, e, rfl, h1, h2, g1, g2⟩ := h
  obtain ⟨b1, o1, rfl, hb1, c0⟩ := h1.at (k := 0) (by simp)
  have hh := head_bd ho
  simp only [List.getD_cons_zero] at hh c0
  rw [Nat.add_zero] at c0
  obtain ⟨cnt, rfl⟩ : ∃ cnt : Nat, n0 = (cnt : Int) := ⟨n0.toNat, by omega⟩
  have hdl := arrOk_len ho
  obtain ⟨N, hN⟩ : ∃ N : Nat, (0 < cnt → sizeV t = (N : Int)) ∧ (¬ 0 < cnt → N = 0) := by
    by_cases hp : 0 < cnt
    · exact ⟨(sizeV t).toNat, fun _ => by have := tail_size ho (by omega); omega, fun h => absurd hp h⟩
    · exact ⟨0, fun h => absurd h hp, fun _ => rfl⟩
  have hmul : 0 < cnt → cnt * N = d.length := fun hp => by
    have q := (tail_size ho (by omega)).2.1
    rw [hN.1 hp] at q
    have : ((cnt * N : Nat) : Int) = (d.length : Int) := by simpa using q
    omega
  have hN3 : N ≤ 300 := by
    by_cases hp : 0 < cnt
    · have := (tail_size ho (by omega)).2.2; have := hN.1 hp; omega
    · have := hN.2 hp; omega
  have hle : ∀ k, k < cnt → k * N + N ≤ d.length := fun k hk => by
    have q : (k + 1) * N ≤ cnt * N := Nat.mul_le_mul_right N (by omega)
    rw [hmul (by omega), Nat.add_mul, Nat.one_mul] at q
    exact q
  have ht : Ints w0 (some ⟨b1, o1 + 1, none⟩) t := by
    rcases h1 with h1 | ⟨b', off', e', hb', hc'⟩
    · cases h1
    · cases e'
      refine .inr ⟨b1, o1 + 1, rfl, hb', fun k hk => ?_⟩
      have q := hc' (k + 1) (by simp; omega)
      rw [show o1 + (k + 1) = o1 + 1 + k by omega] at q
      simpa using q
  have hlen : ∀ k, k < cnt → ((d.drop (k * N)).take N).length = N := fun k hk => by have := hle k hk; simp; omega
  have hF : ∀ k, k < cnt → (rowsF ((cnt : Int) :: t) d).getD (2 * k + 1) [] = (d.drop (k * N)).take N := fun k hk => by
    have hR : rowsF ((cnt : Int) :: t) d = (List.range cnt).flatMap (fun i => [t, (d.drop (i * N)).take N]) := by
      unfold rowsF
      rw [if_pos ⟨ho, by simp⟩]
      simp [hN.1 (by omega)]
    rw [hR]
    exact (flat2_at cnt k (fun _ => t) (fun i => (d.drop (i * N)).take N) hk).2
  refine ⟨b1, o1, c, e, t.length, cnt, N, if t.length = 0 then some ⟨b1, o1, none⟩ else some ⟨b1, o1 + 1, none⟩, b, fun k => if N = 0 then b else b.map (·.add (k * N)), fun _ => N, rfl, ?_, by omega, hN3, ?_, ?_, ?_, hb1, c0, ?_⟩
  · unfold rowN
    rw [rowsF_length, if_pos ⟨ho, by simp⟩]
    simp
  · intro hp
    rw [← hmul hp]
    rw [Int.natCast_mul, Int.mul_ediv_cancel_left _ (by omega)]
  · exact fun W => slice_tail3 W b1 o1 t.length c (by simpa using g1)
  · intro k M R W hk hM hR
    rw [← hM]
    exact slice_cut3 W b d.length e (k * N) R N (by rw [← hR, Nat.add_mul, Nat.one_mul]) (by have := hle k hk; rw [← hR, Nat.add_mul, Nat.one_mul]; omega)
  · intro k hk
    rw [hF k hk]
    refine ⟨_, _, _, _, by rw [hlen k hk], ?_, ?_, Nat.le_refl _, by rw [hlen k hk]; exact Nat.le_refl _⟩
    · by_cases h0 : t.length = 0
      · exact .inl (List.eq_nil_of_length_eq_zero h0)
      · rw [if_neg h0]; exact ht
    · by_cases h0 : N = 0
      · subst h0; exact .inl (by simp)
      · have hd0 : 0 < d.length := by have := hle k hk; omega
        obtain ⟨b2, o2, rfl, hb2, _⟩ := h2.at hd0
        show Ints w0 (if N = 0 then some ⟨b2, o2, none⟩ else (some (⟨b2, o2, none⟩ : Addr)).map (·.add (k * N))) _
        rw [if_neg h0]
        have e : (⟨b2, o2, none⟩ : Addr).add (k * N) = ⟨b2, o2 + k * N, none⟩ := by unfold Addr.add; split <;> simp_all
        simp only [Option.map_some, e]
        exact ints_cut h2 (hle k hk)
theorem cat_fin (sep : ByteArray) (f : Nat → ByteArray) (n : Nat) : jnS sep ((List.finRange n).map (fun k => f k.1)) = cat sep f n := by
  rw [cat_jnS, ← finRange_val, List.map_map]
  rfl
/-- text of rank 2. -/
theorem text2_impl {s d : List Int} {v : Value} {w0 w : World} {g m : Nat} {t3 : Value} (h : ArrI w0 v s d) (ho : arrOk s d = true) (hr : s.length = 2) (hm : m ≤ 22) (hb0 : Below w0.heap.size w0 w) (hng : w0.heap.size ≤ g) (hg : Sheet w g m (.slice none 0 0) t3) (ht : TabW w0) :
    Calls Tryd.prog 35 #[.pointer (some ⟨g, 0, none⟩), v] w fun e w' => e = .returned (.string (part2 m s d)) ∧ Below w.heap.size w w' := by
  match s, hr with
  | [n0, n1], _ =>
    obtain ⟨_, _, hrow⟩ := rows_are ho (by simp)
    obtain ⟨b1, o1, c, e, ct, cnt, N, tl, b, ad, cd, rfl, hn, hc, hN, hq, hs1, hs2, hb1, h0, hk⟩ := cut_facts h ho
    have := text2_walk cnt N b1 o1 c e ct g m t3 [n1] d tl b ad cd (fun k => lineV m ((rowsF [n0, n1] d).getD (2 * k + 1) [])) w0 w hc hN hq hs1 hs2 hb0 hng hb1 h0 hg
      (fun k hk2 => by
        have := lineV_le hm (arrOk_num (hrow k (by omega)).2) (arrOk_len (hrow k (by omega)).2)
        omega)
      (fun k hk2 W u hb hs => text1_impl hs ((hk k hk2).keep hb) (by simp) (arrOk_num (hrow k (by omega)).2) (by have := arrOk_len (hrow k (by omega)).2; omega) hm (ht.on hb))
    unfold part2
    rw [hn, ← cat_fin]
    exact this
/-- text of rank 3. -/
theorem text3_impl {s d : List Int} {v : Value} {w0 w : World} {g m : Nat} (h : ArrI w0 v s d) (ho : arrOk s d = true) (hr : s.length = 3) (hm : m ≤ 22) (hb0 : Below w0.heap.size w0 w) (hng : w0.heap.size ≤ g) (hg : Sheet w g m (.slice none 0 0) (.slice none 0 0)) (ht : TabW w0) :
    Calls Tryd.prog 35 #[.pointer (some ⟨g, 0, none⟩), v] w fun e w' => e = .returned (.string (part3 m s d)) ∧ Below w.heap.size w w' := by
  match s, hr with
  | [n0, n1, n2], _ =>
    obtain ⟨_, _, hrow⟩ := rows_are ho (by simp)
    obtain ⟨b1, o1, c, e, ct, cnt, N, tl, b, ad, cd, rfl, hn, hc, hN, hq, hs1, hs2, hb1, h0, hk⟩ := cut_facts h ho
    have := text3_walk cnt N b1 o1 c e ct g m [n1, n2] d tl b ad cd (fun k => part2 m ((rowsF [n0, n1, n2] d).getD (2 * k) []) ((rowsF [n0, n1, n2] d).getD (2 * k + 1) [])) w0 w hc hN hq hs1 hs2 hb0 hng hb1 h0 hg
      (fun k hk2 => by
        have q := hrow k (by omega)
        show (part2 m _ _).size ≤ _
        rw [q.1]
        have := part2_le hm q.2 (by simp)
        omega)
      (fun k hk2 W u hb hs => by
        have q := hrow k (by omega)
        show Calls _ _ _ _ fun e w' => e = .returned (.string (part2 m _ _)) ∧ _
        rw [q.1]
        exact text2_impl (hk k hk2) q.2 rfl hm hb hng hs ht)
    unfold part3
    rw [hn, ← cat_fin]
    exact this
set_option maxRecDepth 20000 in
set_option maxHeartbeats 4000000 in
theorem layouts_impl (w : World) :
    Calls Tryd.prog 34 #[] w fun e w' => e = .returned (.agg #[.func (.func 43) #[] #[], .string ⟨#[]⟩, .func (.func 43) #[] #[], .string ⟨#[]⟩, .func (.func 66) #[] #[], .string ⟨#[10]⟩, .func (.func 66) #[] #[], .string ⟨#[10, 10]⟩]) ∧ Below w.heap.size w w' := by
  go_enter Tryd.func34, Tryd.ntmps34
  go_wp2
  exact bodyPost_ret (v := .agg #[.func (.func 43) #[] #[], .string ⟨#[]⟩, .func (.func 43) #[] #[], .string ⟨#[]⟩, .func (.func 66) #[] #[], .string ⟨#[10]⟩, .func (.func 66) #[] #[], .string ⟨#[10, 10]⟩]) (by simp [results, Tryd.results34, go_sem]) rfl ⟨rfl, bAlloc (Below.refl _ _) _⟩
end Go.Proofs.YtcaidhmolnnikaaDoor
namespace Go.Proofs.YtcaidhmolnnikaaDoor
open Go.RowKit
set_option linter.unusedVariables false
set_option linter.unusedSimpArgs false
set_option maxRecDepth 20000 in
set_option maxHeartbeats 8000000 in
theorem show0_impl {d : List Int} {v : Value} {w : World} (h : ArrI w v [] d) (ho : arrOk [] d = true) (ht : TabW w) :
    Calls Tryd.prog 11 #[v] w fun e w' => e = .returned (.string (lineV 0 d)) ∧ Below w.heap.size w w' := by
  obtain ⟨z1, z2, z3, z4⟩ := wide_bd ho
  have CO : Hid (∀ W, Below w.heap.size w W → Calls Tryd.prog 33 #[v] W fun e w' => e = .returned (.bool true) ∧ Below W.heap.size W w') := fun W hb => by
    have := arrOk_impl (h.keep hb) (by have := arrOk_len ho; omega)
    rw [ho] at this
    exact this
  have CT : Hid (∀ W g, Below w.heap.size w W → w.heap.size ≤ g → Sheet W g 0 (.slice none 0 0) (.slice none 0 0) → Calls Tryd.prog 35 #[.pointer (some ⟨g, 0, none⟩), v] W fun e w' => e = .returned (.string (lineV 0 d)) ∧ Below W.heap.size W w') := fun W g hb hgg hg => text1_impl hg (h.keep hb) (by simp) (arrOk_num ho) (by have := arrOk_len ho; omega) (by decide) (ht.on hb)
  obtain ⟨V, hV⟩ : ∃ V, V = lineV 0 d := ⟨_, rfl⟩
  rw [← hV] at CT ⊢
  have H := h
  obtain ⟨sa, sc, da, dc, rfl, _, h2, _, _⟩ := h
  have H2 : Hid (Ints w da d) := h2
  have HD : Hid (d.length ≤ 300) := arrOk_len ho
  have HT : Hid (TabW w) := ht
  have CW : Hid (∀ W, Below w.heap.size w W → Calls Tryd.prog 43 #[.slice da d.length dc] W fun e w' => e = .returned (.int .i64 0) ∧ Below W.heap.size W w') := fun W hb => (asCome_impl _ _ _ _).mono (by rintro e w' ⟨rfl, rfl⟩; exact ⟨rfl, Below.refl _ _⟩)
  have EM : Hid (((0 : Nat) : Int) = 0) := rfl
  have LN : (([] : List Int).length : Nat) = 0 := rfl
  clear h2 ho ht hV z1 z2 z3 z4 H
  go_enter Tryd.func11, Tryd.ntmps11
  go_wp2_with fail
  refine (CO.out _ (bAlloc (Below.refl _ _) _)).mono ?_
  rintro e w1 ⟨rfl, hb⟩
  have B1 : Hid (Below w.heap.size w w1) := bTrans (bAlloc (Below.refl _ _) _) hb
  have X1 : Hid (Box w1 w.heap.size (.slice sa 0 sc) (.slice da d.length dc) 27) := (box_new w _ _ _).keep hb
  clear hb CO
  go_wp2_with fail
  refine (layouts_impl _).mono ?_
  rintro e w2 ⟨rfl, hb⟩
  have B2 : Hid (Below w.heap.size w w2) := bTrans B1.out hb
  have X2 : Hid (Box w2 w.heap.size (.slice sa 0 sc) (.slice da d.length dc) 27) := X1.out.keep hb
  clear hb X1
  go_wp2_with fail
  generalize hW : w2.alloc (.cells #[.func (.func 43) #[] #[], .string ⟨#[]⟩, .func (.func 43) #[] #[], .string ⟨#[]⟩, .func (.func 66) #[] #[], .string ⟨#[10]⟩, .func (.func 66) #[] #[], .string ⟨#[10, 10]⟩, .int .i64 0, .slice none 0 0, .slice none 0 0, .slice none 0 0, .slice none 0 0] 59) = w3
  have B23 : Hid (Below w2.heap.size w2 w3) := by rw [← hW]; exact bAlloc (Below.refl _ _) _
  have G3 : Hid (Sheet w3 w2.heap.size 0 (.slice none 0 0) (.slice none 0 0)) := by rw [← hW]; exact heap_alloc_new w2 _
  have B3 : Hid (Below w.heap.size w w3) := bTrans B2.out B23.out
  have X3 : Hid (Box w3 w.heap.size (.slice sa 0 sc) (.slice da d.length dc) 27) := X2.out.keep B23.out
  have SZ : Hid (w.heap.size < w2.heap.size) := X2.out.lt
  clear hW X2
  have SK : Hid (∀ W, Below w3.heap.size w3 W → W.cell? ⟨w.heap.size, 0, none⟩ = some (.slice sa 0 sc) ∧ W.cell? ⟨w.heap.size, 1, none⟩ = some (.slice da d.length dc) ∧ W.cell? ⟨w2.heap.size, 0, none⟩ = some (.func (.func 43) #[] #[])) := fun W hb => ⟨(X3.out.keep hb).c0, (X3.out.keep hb).c1, cell_at (G3.out.keep hb) rfl⟩
  have x0 := X3.out.c0
  have x1 := X3.out.c1
  have g0 : w3.cell? ⟨w2.heap.size, 0, none⟩ = some (.func (.func 43) #[] #[]) := cell_at G3.out rfl
  have ST : Hid (∀ W, Below w3.heap.size w3 W → Sheet (W.setCell ⟨w2.heap.size, 8, none⟩ (.int .i64 0)) w2.heap.size 0 (.slice none 0 0) (.slice none 0 0)) := fun W hb => by
    have := heap_setCell_same W w2.heap.size 8 _ _ (.int .i64 0) (G3.out.keep hb)
    rw [← EM.out] at this ⊢
    exact this
  go_region_held3 (fun w' => w'.cell? ⟨w.heap.size, 0, none⟩ = some (.slice sa 0 sc) ∧ w'.cell? ⟨w.heap.size, 1, none⟩ = some (.slice da d.length dc) ∧ w'.cell? ⟨w2.heap.size, 0, none⟩ = some (.func (.func 43) #[] #[]))
    ((first
      | (refine SK.out _ ?_; (repeat first | with_reducible exact HB4.out | with_reducible exact Below.refl _ _ | with_reducible refine Below.drew ?_); done)
      | exact ⟨(World.cell?_of_block (heap_setCell_other _ _ _ _ (Nat.ne_of_lt SZ.out))).trans (SK.out _ HB4.out).1, (World.cell?_of_block (heap_setCell_other _ _ _ _ (Nat.ne_of_lt SZ.out))).trans (SK.out _ HB4.out).2.1, cell_at (ST.out _ HB4.out) rfl⟩))
    ((go_at_call 43; refine (CW.out _ (bTrans B3.out ((Below.refl w3.heap.size w3).drew))).mono ?_; rintro r w4 ⟨rfl, hb⟩; have HB4 : Hid (Below w3.heap.size w3 w4) := bTrans ((Below.refl w3.heap.size w3).drew) hb; have wc : w4.cell? ⟨w2.heap.size, 8, none⟩ = some (.int .i64 0) := cell_at (G3.out.keep HB4.out) rfl; have wf : w4.frozen? ⟨w2.heap.size, 8, none⟩ = false := free_at (G3.out.keep HB4.out) _; clear hb))
  all_goals
    generalize hW : w4.setCell ⟨w2.heap.size, 8, none⟩ (.int .i64 0) = w5
    have G5 : Hid (Sheet w5 w2.heap.size 0 (.slice none 0 0) (.slice none 0 0)) := by rw [← hW]; exact ST.out _ HB4.out
    have B5 : Hid (Below w.heap.size w w5) := by rw [← hW]; exact below_setCell (bTrans B3.out HB4.out) (by have := SZ.out; omega) _ _
    have x5 : w5.cell? ⟨w.heap.size, 0, none⟩ = some (.slice sa 0 sc) := by rw [← hW]; exact (World.cell?_of_block (heap_setCell_other _ _ _ _ (Nat.ne_of_lt SZ.out))).trans (SK.out _ HB4.out).1
    have y5 : w5.cell? ⟨w.heap.size, 1, none⟩ = some (.slice da d.length dc) := by rw [← hW]; exact (World.cell?_of_block (heap_setCell_other _ _ _ _ (Nat.ne_of_lt SZ.out))).trans (SK.out _ HB4.out).2.1
    clear hW x0 x1 g0 wc wf
    go_wp2_with fail
    refine (CT.out _ _ B5.out (Nat.le_of_lt SZ.out) G5.out).mono ?_
    rintro e w6 ⟨rfl, hb⟩
    have B6 : Hid (Below w.heap.size w w6) := bTrans B5.out hb
    clear hb
    go_wp2
    go_ret
    exact ⟨rfl, B6.out⟩
set_option maxRecDepth 20000 in
set_option maxHeartbeats 8000000 in
theorem show1_impl {x0 : Int} {d : List Int} {v : Value} {w : World} (h : ArrI w v [x0] d) (ho : arrOk [x0] d = true) (ht : TabW w) :
    Calls Tryd.prog 11 #[v] w fun e w' => e = .returned (.string (lineV 0 d)) ∧ Below w.heap.size w w' := by
  obtain ⟨z1, z2, z3, z4⟩ := wide_bd ho
  have CO : Hid (∀ W, Below w.heap.size w W → Calls Tryd.prog 33 #[v] W fun e w' => e = .returned (.bool true) ∧ Below W.heap.size W w') := fun W hb => by
    have := arrOk_impl (h.keep hb) (by have := arrOk_len ho; omega)
    rw [ho] at this
    exact this
  have CT : Hid (∀ W g, Below w.heap.size w W → w.heap.size ≤ g → Sheet W g 0 (.slice none 0 0) (.slice none 0 0) → Calls Tryd.prog 35 #[.pointer (some ⟨g, 0, none⟩), v] W fun e w' => e = .returned (.string (lineV 0 d)) ∧ Below W.heap.size W w') := fun W g hb hgg hg => text1_impl hg (h.keep hb) (by simp) (arrOk_num ho) (by have := arrOk_len ho; omega) (by decide) (ht.on hb)
  obtain ⟨V, hV⟩ : ∃ V, V = lineV 0 d := ⟨_, rfl⟩
  rw [← hV] at CT ⊢
  have H := h
  obtain ⟨sa, sc, da, dc, rfl, _, h2, _, _⟩ := h
  have H2 : Hid (Ints w da d) := h2
  have HD : Hid (d.length ≤ 300) := arrOk_len ho
  have HT : Hid (TabW w) := ht
  have CW : Hid (∀ W, Below w.heap.size w W → Calls Tryd.prog 43 #[.slice da d.length dc] W fun e w' => e = .returned (.int .i64 0) ∧ Below W.heap.size W w') := fun W hb => (asCome_impl _ _ _ _).mono (by rintro e w' ⟨rfl, rfl⟩; exact ⟨rfl, Below.refl _ _⟩)
  have EM : Hid (((0 : Nat) : Int) = 0) := rfl
  have LN : (([x0] : List Int).length : Nat) = 1 := rfl
  clear h2 ho ht hV z1 z2 z3 z4 H
  go_enter Tryd.func11, Tryd.ntmps11
  go_wp2_with fail
  refine (CO.out _ (bAlloc (Below.refl _ _) _)).mono ?_
  rintro e w1 ⟨rfl, hb⟩
  have B1 : Hid (Below w.heap.size w w1) := bTrans (bAlloc (Below.refl _ _) _) hb
  have X1 : Hid (Box w1 w.heap.size (.slice sa 1 sc) (.slice da d.length dc) 27) := (box_new w _ _ _).keep hb
  clear hb CO
  go_wp2_with fail
  refine (layouts_impl _).mono ?_
  rintro e w2 ⟨rfl, hb⟩
  have B2 : Hid (Below w.heap.size w w2) := bTrans B1.out hb
  have X2 : Hid (Box w2 w.heap.size (.slice sa 1 sc) (.slice da d.length dc) 27) := X1.out.keep hb
  clear hb X1
  go_wp2_with fail
  generalize hW : w2.alloc (.cells #[.func (.func 43) #[] #[], .string ⟨#[]⟩, .func (.func 43) #[] #[], .string ⟨#[]⟩, .func (.func 66) #[] #[], .string ⟨#[10]⟩, .func (.func 66) #[] #[], .string ⟨#[10, 10]⟩, .int .i64 0, .slice none 0 0, .slice none 0 0, .slice none 0 0, .slice none 0 0] 59) = w3
  have B23 : Hid (Below w2.heap.size w2 w3) := by rw [← hW]; exact bAlloc (Below.refl _ _) _
  have G3 : Hid (Sheet w3 w2.heap.size 0 (.slice none 0 0) (.slice none 0 0)) := by rw [← hW]; exact heap_alloc_new w2 _
  have B3 : Hid (Below w.heap.size w w3) := bTrans B2.out B23.out
  have X3 : Hid (Box w3 w.heap.size (.slice sa 1 sc) (.slice da d.length dc) 27) := X2.out.keep B23.out
  have SZ : Hid (w.heap.size < w2.heap.size) := X2.out.lt
  clear hW X2
  have SK : Hid (∀ W, Below w3.heap.size w3 W → W.cell? ⟨w.heap.size, 0, none⟩ = some (.slice sa 1 sc) ∧ W.cell? ⟨w.heap.size, 1, none⟩ = some (.slice da d.length dc) ∧ W.cell? ⟨w2.heap.size, 2, none⟩ = some (.func (.func 43) #[] #[])) := fun W hb => ⟨(X3.out.keep hb).c0, (X3.out.keep hb).c1, cell_at (G3.out.keep hb) rfl⟩
  have x0 := X3.out.c0
  have x1 := X3.out.c1
  have g0 : w3.cell? ⟨w2.heap.size, 2, none⟩ = some (.func (.func 43) #[] #[]) := cell_at G3.out rfl
  have ST : Hid (∀ W, Below w3.heap.size w3 W → Sheet (W.setCell ⟨w2.heap.size, 8, none⟩ (.int .i64 0)) w2.heap.size 0 (.slice none 0 0) (.slice none 0 0)) := fun W hb => by
    have := heap_setCell_same W w2.heap.size 8 _ _ (.int .i64 0) (G3.out.keep hb)
    rw [← EM.out] at this ⊢
    exact this
  go_region_held3 (fun w' => w'.cell? ⟨w.heap.size, 0, none⟩ = some (.slice sa 1 sc) ∧ w'.cell? ⟨w.heap.size, 1, none⟩ = some (.slice da d.length dc) ∧ w'.cell? ⟨w2.heap.size, 2, none⟩ = some (.func (.func 43) #[] #[]))
    ((first
      | (refine SK.out _ ?_; (repeat first | with_reducible exact HB4.out | with_reducible exact Below.refl _ _ | with_reducible refine Below.drew ?_); done)
      | exact ⟨(World.cell?_of_block (heap_setCell_other _ _ _ _ (Nat.ne_of_lt SZ.out))).trans (SK.out _ HB4.out).1, (World.cell?_of_block (heap_setCell_other _ _ _ _ (Nat.ne_of_lt SZ.out))).trans (SK.out _ HB4.out).2.1, cell_at (ST.out _ HB4.out) rfl⟩))
    ((go_at_call 43; refine (CW.out _ (bTrans B3.out ((Below.refl w3.heap.size w3).drew))).mono ?_; rintro r w4 ⟨rfl, hb⟩; have HB4 : Hid (Below w3.heap.size w3 w4) := bTrans ((Below.refl w3.heap.size w3).drew) hb; have wc : w4.cell? ⟨w2.heap.size, 8, none⟩ = some (.int .i64 0) := cell_at (G3.out.keep HB4.out) rfl; have wf : w4.frozen? ⟨w2.heap.size, 8, none⟩ = false := free_at (G3.out.keep HB4.out) _; clear hb))
  all_goals
    generalize hW : w4.setCell ⟨w2.heap.size, 8, none⟩ (.int .i64 0) = w5
    have G5 : Hid (Sheet w5 w2.heap.size 0 (.slice none 0 0) (.slice none 0 0)) := by rw [← hW]; exact ST.out _ HB4.out
    have B5 : Hid (Below w.heap.size w w5) := by rw [← hW]; exact below_setCell (bTrans B3.out HB4.out) (by have := SZ.out; omega) _ _
    have x5 : w5.cell? ⟨w.heap.size, 0, none⟩ = some (.slice sa 1 sc) := by rw [← hW]; exact (World.cell?_of_block (heap_setCell_other _ _ _ _ (Nat.ne_of_lt SZ.out))).trans (SK.out _ HB4.out).1
    have y5 : w5.cell? ⟨w.heap.size, 1, none⟩ = some (.slice da d.length dc) := by rw [← hW]; exact (World.cell?_of_block (heap_setCell_other _ _ _ _ (Nat.ne_of_lt SZ.out))).trans (SK.out _ HB4.out).2.1
    clear hW x0 x1 g0 wc wf
    go_wp2_with fail
    refine (CT.out _ _ B5.out (Nat.le_of_lt SZ.out) G5.out).mono ?_
    rintro e w6 ⟨rfl, hb⟩
    have B6 : Hid (Below w.heap.size w w6) := bTrans B5.out hb
    clear hb
    go_wp2
    go_ret
    exact ⟨rfl, B6.out⟩
set_option maxRecDepth 20000 in
set_option maxHeartbeats 8000000 in
theorem show2_impl {x0 x1 : Int} {d : List Int} {v : Value} {w : World} (h : ArrI w v [x0, x1] d) (ho : arrOk [x0, x1] d = true) (ht : TabW w) :
    Calls Tryd.prog 11 #[v] w fun e w' => e = .returned (.string (part2 (wideV d).toNat [x0, x1] d)) ∧ Below w.heap.size w w' := by
  obtain ⟨z1, z2, z3, z4⟩ := wide_bd ho
  have CO : Hid (∀ W, Below w.heap.size w W → Calls Tryd.prog 33 #[v] W fun e w' => e = .returned (.bool true) ∧ Below W.heap.size W w') := fun W hb => by
    have := arrOk_impl (h.keep hb) (by have := arrOk_len ho; omega)
    rw [ho] at this
    exact this
  have CT : Hid (∀ W g, Below w.heap.size w W → w.heap.size ≤ g → Sheet W g (wideV d).toNat (.slice none 0 0) (.slice none 0 0) → Calls Tryd.prog 35 #[.pointer (some ⟨g, 0, none⟩), v] W fun e w' => e = .returned (.string (part2 (wideV d).toNat [x0, x1] d)) ∧ Below W.heap.size W w') := fun W g hb hgg hg => text2_impl h ho rfl z4 hb hgg hg ht
  obtain ⟨V, hV⟩ : ∃ V, V = part2 (wideV d).toNat [x0, x1] d := ⟨_, rfl⟩
  rw [← hV] at CT ⊢
  have H := h
  obtain ⟨sa, sc, da, dc, rfl, _, h2, _, _⟩ := h
  have H2 : Hid (Ints w da d) := h2
  have HD : Hid (d.length ≤ 300) := arrOk_len ho
  have HT : Hid (TabW w) := ht
  have CW : Hid (∀ W, Below w.heap.size w W → Calls Tryd.prog 66 #[.slice da d.length dc] W fun e w' => e = .returned (.int .i64 (wideV d)) ∧ Below W.heap.size W w') := fun W hb => showWide_impl dc (H2.out.keep hb) (by have := HD.out; omega) (HT.out.on hb)
  have EM : Hid ((((wideV d).toNat : Nat) : Int) = (wideV d)) := z3
  have LN : (([x0, x1] : List Int).length : Nat) = 2 := rfl
  clear h2 ho ht hV z1 z2 z3 z4 H
  go_enter Tryd.func11, Tryd.ntmps11
  go_wp2_with fail
  refine (CO.out _ (bAlloc (Below.refl _ _) _)).mono ?_
  rintro e w1 ⟨rfl, hb⟩
  have B1 : Hid (Below w.heap.size w w1) := bTrans (bAlloc (Below.refl _ _) _) hb
  have X1 : Hid (Box w1 w.heap.size (.slice sa 2 sc) (.slice da d.length dc) 27) := (box_new w _ _ _).keep hb
  clear hb CO
  go_wp2_with fail
  refine (layouts_impl _).mono ?_
  rintro e w2 ⟨rfl, hb⟩
  have B2 : Hid (Below w.heap.size w w2) := bTrans B1.out hb
  have X2 : Hid (Box w2 w.heap.size (.slice sa 2 sc) (.slice da d.length dc) 27) := X1.out.keep hb
  clear hb X1
  go_wp2_with fail
  generalize hW : w2.alloc (.cells #[.func (.func 43) #[] #[], .string ⟨#[]⟩, .func (.func 43) #[] #[], .string ⟨#[]⟩, .func (.func 66) #[] #[], .string ⟨#[10]⟩, .func (.func 66) #[] #[], .string ⟨#[10, 10]⟩, .int .i64 0, .slice none 0 0, .slice none 0 0, .slice none 0 0, .slice none 0 0] 59) = w3
  have B23 : Hid (Below w2.heap.size w2 w3) := by rw [← hW]; exact bAlloc (Below.refl _ _) _
  have G3 : Hid (Sheet w3 w2.heap.size 0 (.slice none 0 0) (.slice none 0 0)) := by rw [← hW]; exact heap_alloc_new w2 _
  have B3 : Hid (Below w.heap.size w w3) := bTrans B2.out B23.out
  have X3 : Hid (Box w3 w.heap.size (.slice sa 2 sc) (.slice da d.length dc) 27) := X2.out.keep B23.out
  have SZ : Hid (w.heap.size < w2.heap.size) := X2.out.lt
  clear hW X2
  have SK : Hid (∀ W, Below w3.heap.size w3 W → W.cell? ⟨w.heap.size, 0, none⟩ = some (.slice sa 2 sc) ∧ W.cell? ⟨w.heap.size, 1, none⟩ = some (.slice da d.length dc) ∧ W.cell? ⟨w2.heap.size, 4, none⟩ = some (.func (.func 66) #[] #[])) := fun W hb => ⟨(X3.out.keep hb).c0, (X3.out.keep hb).c1, cell_at (G3.out.keep hb) rfl⟩
  have x0 := X3.out.c0
  have x1 := X3.out.c1
  have g0 : w3.cell? ⟨w2.heap.size, 4, none⟩ = some (.func (.func 66) #[] #[]) := cell_at G3.out rfl
  have ST : Hid (∀ W, Below w3.heap.size w3 W → Sheet (W.setCell ⟨w2.heap.size, 8, none⟩ (.int .i64 (wideV d))) w2.heap.size (wideV d).toNat (.slice none 0 0) (.slice none 0 0)) := fun W hb => by
    have := heap_setCell_same W w2.heap.size 8 _ _ (.int .i64 (wideV d)) (G3.out.keep hb)
    rw [← EM.out] at this ⊢
    exact this
  go_region_held3 (fun w' => w'.cell? ⟨w.heap.size, 0, none⟩ = some (.slice sa 2 sc) ∧ w'.cell? ⟨w.heap.size, 1, none⟩ = some (.slice da d.length dc) ∧ w'.cell? ⟨w2.heap.size, 4, none⟩ = some (.func (.func 66) #[] #[]))
    ((first
      | (refine SK.out _ ?_; (repeat first | with_reducible exact HB4.out | with_reducible exact Below.refl _ _ | with_reducible refine Below.drew ?_); done)
      | exact ⟨(World.cell?_of_block (heap_setCell_other _ _ _ _ (Nat.ne_of_lt SZ.out))).trans (SK.out _ HB4.out).1, (World.cell?_of_block (heap_setCell_other _ _ _ _ (Nat.ne_of_lt SZ.out))).trans (SK.out _ HB4.out).2.1, cell_at (ST.out _ HB4.out) rfl⟩))
    ((go_at_call 66; refine (CW.out _ (bTrans B3.out ((Below.refl w3.heap.size w3).drew))).mono ?_; rintro r w4 ⟨rfl, hb⟩; have HB4 : Hid (Below w3.heap.size w3 w4) := bTrans ((Below.refl w3.heap.size w3).drew) hb; have wc : w4.cell? ⟨w2.heap.size, 8, none⟩ = some (.int .i64 0) := cell_at (G3.out.keep HB4.out) rfl; have wf : w4.frozen? ⟨w2.heap.size, 8, none⟩ = false := free_at (G3.out.keep HB4.out) _; clear hb))
  all_goals
    generalize hW : w4.setCell ⟨w2.heap.size, 8, none⟩ (.int .i64 (wideV d)) = w5
    have G5 : Hid (Sheet w5 w2.heap.size (wideV d).toNat (.slice none 0 0) (.slice none 0 0)) := by rw [← hW]; exact ST.out _ HB4.out
    have B5 : Hid (Below w.heap.size w w5) := by rw [← hW]; exact below_setCell (bTrans B3.out HB4.out) (by have := SZ.out; omega) _ _
    have x5 : w5.cell? ⟨w.heap.size, 0, none⟩ = some (.slice sa 2 sc) := by rw [← hW]; exact (World.cell?_of_block (heap_setCell_other _ _ _ _ (Nat.ne_of_lt SZ.out))).trans (SK.out _ HB4.out).1
    have y5 : w5.cell? ⟨w.heap.size, 1, none⟩ = some (.slice da d.length dc) := by rw [← hW]; exact (World.cell?_of_block (heap_setCell_other _ _ _ _ (Nat.ne_of_lt SZ.out))).trans (SK.out _ HB4.out).2.1
    clear hW x0 x1 g0 wc wf
    go_wp2_with fail
    refine (CT.out _ _ B5.out (Nat.le_of_lt SZ.out) G5.out).mono ?_
    rintro e w6 ⟨rfl, hb⟩
    have B6 : Hid (Below w.heap.size w w6) := bTrans B5.out hb
    clear hb
    go_wp2
    go_ret
    exact ⟨rfl, B6.out⟩
set_option maxRecDepth 20000 in
set_option maxHeartbeats 8000000 in
theorem show3_impl {x0 x1 x2 : Int} {d : List Int} {v : Value} {w : World} (h : ArrI w v [x0, x1, x2] d) (ho : arrOk [x0, x1, x2] d = true) (ht : TabW w) :
    Calls Tryd.prog 11 #[v] w fun e w' => e = .returned (.string (part3 (wideV d).toNat [x0, x1, x2] d)) ∧ Below w.heap.size w w' := by
  obtain ⟨z1, z2, z3, z4⟩ := wide_bd ho
  have CO : Hid (∀ W, Below w.heap.size w W → Calls Tryd.prog 33 #[v] W fun e w' => e = .returned (.bool true) ∧ Below W.heap.size W w') := fun W hb => by
    have := arrOk_impl (h.keep hb) (by have := arrOk_len ho; omega)
    rw [ho] at this
    exact this
  have CT : Hid (∀ W g, Below w.heap.size w W → w.heap.size ≤ g → Sheet W g (wideV d).toNat (.slice none 0 0) (.slice none 0 0) → Calls Tryd.prog 35 #[.pointer (some ⟨g, 0, none⟩), v] W fun e w' => e = .returned (.string (part3 (wideV d).toNat [x0, x1, x2] d)) ∧ Below W.heap.size W w') := fun W g hb hgg hg => text3_impl h ho rfl z4 hb hgg hg ht
  obtain ⟨V, hV⟩ : ∃ V, V = part3 (wideV d).toNat [x0, x1, x2] d := ⟨_, rfl⟩
  rw [← hV] at CT ⊢
  have H := h
  obtain ⟨sa, sc, da, dc, rfl, _, h2, _, _⟩ := h
  have H2 : Hid (Ints w da d) := h2
  have HD : Hid (d.length ≤ 300) := arrOk_len ho
  have HT : Hid (TabW w) := ht
  have CW : Hid (∀ W, Below w.heap.size w W → Calls Tryd.prog 66 #[.slice da d.length dc] W fun e w' => e = .returned (.int .i64 (wideV d)) ∧ Below W.heap.size W w') := fun W hb => showWide_impl dc (H2.out.keep hb) (by have := HD.out; omega) (HT.out.on hb)
  have EM : Hid ((((wideV d).toNat : Nat) : Int) = (wideV d)) := z3
  have LN : (([x0, x1, x2] : List Int).length : Nat) = 3 := rfl
  clear h2 ho ht hV z1 z2 z3 z4 H
  go_enter Tryd.func11, Tryd.ntmps11
  go_wp2_with fail
  refine (CO.out _ (bAlloc (Below.refl _ _) _)).mono ?_
  rintro e w1 ⟨rfl, hb⟩
  have B1 : Hid (Below w.heap.size w w1) := bTrans (bAlloc (Below.refl _ _) _) hb
  have X1 : Hid (Box w1 w.heap.size (.slice sa 3 sc) (.slice da d.length dc) 27) := (box_new w _ _ _).keep hb
  clear hb CO
  go_wp2_with fail
  refine (layouts_impl _).mono ?_
  rintro e w2 ⟨rfl, hb⟩
  have B2 : Hid (Below w.heap.size w w2) := bTrans B1.out hb
  have X2 : Hid (Box w2 w.heap.size (.slice sa 3 sc) (.slice da d.length dc) 27) := X1.out.keep hb
  clear hb X1
  go_wp2_with fail
  generalize hW : w2.alloc (.cells #[.func (.func 43) #[] #[], .string ⟨#[]⟩, .func (.func 43) #[] #[], .string ⟨#[]⟩, .func (.func 66) #[] #[], .string ⟨#[10]⟩, .func (.func 66) #[] #[], .string ⟨#[10, 10]⟩, .int .i64 0, .slice none 0 0, .slice none 0 0, .slice none 0 0, .slice none 0 0] 59) = w3
  have B23 : Hid (Below w2.heap.size w2 w3) := by rw [← hW]; exact bAlloc (Below.refl _ _) _
  have G3 : Hid (Sheet w3 w2.heap.size 0 (.slice none 0 0) (.slice none 0 0)) := by rw [← hW]; exact heap_alloc_new w2 _
  have B3 : Hid (Below w.heap.size w w3) := bTrans B2.out B23.out
  have X3 : Hid (Box w3 w.heap.size (.slice sa 3 sc) (.slice da d.length dc) 27) := X2.out.keep B23.out
  have SZ : Hid (w.heap.size < w2.heap.size) := X2.out.lt
  clear hW X2
  have SK : Hid (∀ W, Below w3.heap.size w3 W → W.cell? ⟨w.heap.size, 0, none⟩ = some (.slice sa 3 sc) ∧ W.cell? ⟨w.heap.size, 1, none⟩ = some (.slice da d.length dc) ∧ W.cell? ⟨w2.heap.size, 6, none⟩ = some (.func (.func 66) #[] #[])) := fun W hb => ⟨(X3.out.keep hb).c0, (X3.out.keep hb).c1, cell_at (G3.out.keep hb) rfl⟩
  have x0 := X3.out.c0
  have x1 := X3.out.c1
  have g0 : w3.cell? ⟨w2.heap.size, 6, none⟩ = some (.func (.func 66) #[] #[]) := cell_at G3.out rfl
  have ST : Hid (∀ W, Below w3.heap.size w3 W → Sheet (W.setCell ⟨w2.heap.size, 8, none⟩ (.int .i64 (wideV d))) w2.heap.size (wideV d).toNat (.slice none 0 0) (.slice none 0 0)) := fun W hb => by
    have := heap_setCell_same W w2.heap.size 8 _ _ (.int .i64 (wideV d)) (G3.out.keep hb)
    rw [← EM.out] at this ⊢
    exact this
  go_region_held3 (fun w' => w'.cell? ⟨w.heap.size, 0, none⟩ = some (.slice sa 3 sc) ∧ w'.cell? ⟨w.heap.size, 1, none⟩ = some (.slice da d.length dc) ∧ w'.cell? ⟨w2.heap.size, 6, none⟩ = some (.func (.func 66) #[] #[]))
    ((first
      | (refine SK.out _ ?_; (repeat first | with_reducible exact HB4.out | with_reducible exact Below.refl _ _ | with_reducible refine Below.drew ?_); done)
      | exact ⟨(World.cell?_of_block (heap_setCell_other _ _ _ _ (Nat.ne_of_lt SZ.out))).trans (SK.out _ HB4.out).1, (World.cell?_of_block (heap_setCell_other _ _ _ _ (Nat.ne_of_lt SZ.out))).trans (SK.out _ HB4.out).2.1, cell_at (ST.out _ HB4.out) rfl⟩))
    ((go_at_call 66; refine (CW.out _ (bTrans B3.out ((Below.refl w3.heap.size w3).drew))).mono ?_; rintro r w4 ⟨rfl, hb⟩; have HB4 : Hid (Below w3.heap.size w3 w4) := bTrans ((Below.refl w3.heap.size w3).drew) hb; have wc : w4.cell? ⟨w2.heap.size, 8, none⟩ = some (.int .i64 0) := cell_at (G3.out.keep HB4.out) rfl; have wf : w4.frozen? ⟨w2.heap.size, 8, none⟩ = false := free_at (G3.out.keep HB4.out) _; clear hb))
  all_goals
    generalize hW : w4.setCell ⟨w2.heap.size, 8, none⟩ (.int .i64 (wideV d)) = w5
    have G5 : Hid (Sheet w5 w2.heap.size (wideV d).toNat (.slice none 0 0) (.slice none 0 0)) := by rw [← hW]; exact ST.out _ HB4.out
    have B5 : Hid (Below w.heap.size w w5) := by rw [← hW]; exact below_setCell (bTrans B3.out HB4.out) (by have := SZ.out; omega) _ _
    have x5 : w5.cell? ⟨w.heap.size, 0, none⟩ = some (.slice sa 3 sc) := by rw [← hW]; exact (World.cell?_of_block (heap_setCell_other _ _ _ _ (Nat.ne_of_lt SZ.out))).trans (SK.out _ HB4.out).1
    have y5 : w5.cell? ⟨w.heap.size, 1, none⟩ = some (.slice da d.length dc) := by rw [← hW]; exact (World.cell?_of_block (heap_setCell_other _ _ _ _ (Nat.ne_of_lt SZ.out))).trans (SK.out _ HB4.out).2.1
    clear hW x0 x1 g0 wc wf
    go_wp2_with fail
    refine (CT.out _ _ B5.out (Nat.le_of_lt SZ.out) G5.out).mono ?_
    rintro e w6 ⟨rfl, hb⟩
    have B6 : Hid (Below w.heap.size w w6) := bTrans B5.out hb
    clear hb
    go_wp2
    go_ret
    exact ⟨rfl, B6.out⟩
set_option maxRecDepth 20000 in
set_option maxHeartbeats 4000000 in
/-- The program's Show. -/
theorem show_impl {s d : List Int} {v : Value} {w : World} (h : ArrI w v s d) (hd : d.length ≤ 1048576) (ht : TabW w) :
    Calls Tryd.prog 11 #[v] w fun e w' => e = .returned (.string (showV s d)) ∧ Below w.heap.size w w' := by
  unfold showV
  cases ho : arrOk s d
  · rw [if_neg (by decide)]
    have CO : Hid (∀ W, Below w.heap.size w W → Calls Tryd.prog 33 #[v] W fun e w' => e = .returned (.bool false) ∧ Below W.heap.size W w') := fun W hb => by
      have := arrOk_impl (h.keep hb) hd
      rw [ho] at this
      exact this
    obtain ⟨sa, sc, da, dc, rfl, _, _, _, _⟩ := h
    clear ho ht
    go_enter Tryd.func11, Tryd.ntmps11
    go_wp2_with fail
    refine (CO.out _ (bAlloc (Below.refl _ _) _)).mono ?_
    rintro e w1 ⟨rfl, hb⟩
    have B1 : Hid (Below w.heap.size w w1) := bTrans (bAlloc (Below.refl _ _) _) hb
    clear hb CO
    go_wp2
    go_ret
    exact ⟨rfl, B1.out⟩
  · rw [if_pos rfl]
    have hl := (sizeV_ok (arrOk_shape ho)).1
    match s, hl with
    | [], _ => rw [if_pos (by decide)]; exact show0_impl h ho ht
    | [x0], _ => rw [if_pos (by simp)]; exact show1_impl h ho ht
    | [x0, x1], _ => rw [if_neg (by simp), if_pos (by simp)]; exact show2_impl h ho ht
    | [x0, x1, x2], _ => rw [if_neg (by simp), if_neg (by simp)]; exact show3_impl h ho ht
    | x0 :: x1 :: x2 :: x3 :: r, hl => simp at hl
end Go.Proofs.YtcaidhmolnnikaaDoor
namespace Go.Proofs.YtcaidhmolnnikaaDoor
open Go.RowKit
set_option linter.unusedVariables false
set_option linter.unusedSimpArgs false
/-- A text of one line. -/
def noNl (s : ByteArray) : Prop := ∀ b ∈ s.data.toList, b ≠ 10
theorem noNl_app {a b : ByteArray} (ha : noNl a) (hb : noNl b) : noNl (a ++ b) := by
  intro x hx
  rw [ByteArray.data_append, Array.toList_append, List.mem_append] at hx
  rcases hx with h | h
  · exact ha x h
  · exact hb x h
theorem noNl_none : noNl ⟨#[]⟩ := by intro x hx; simp at hx
theorem noNl_one {x : Int} (h0 : 48 ≤ x) (h1 : x ≤ 57) : noNl (strOfNums [x]) := by
  intro b hb
  simp [strOfNums] at hb
  subst hb
  intro e
  have := congrArg UInt8.toNat e
  simp at this
  omega
theorem noNl_dgs : ∀ (n N : Nat), N ≤ n → noNl (dgs N)
  | 0, N, h => by
    rw [dgs_small (by omega)]
    exact noNl_one (by omega) (by omega)
  | n + 1, N, h => by
    by_cases h9 : N < 10
    · rw [dgs_small h9]
      exact noNl_one (by omega) (by omega)
    · rw [dgs_step h9]
      exact noNl_app (noNl_dgs n (N / 10) (by omega)) (noNl_one (by omega) (by omega))
theorem noNl_digB (x : Int) : noNl (digB x) := by
  unfold digB
  split
  · exact noNl_app (by intro b hb; simp at hb; subst hb; decide) (noNl_dgs _ _ (Nat.le_refl _))
  · exact noNl_dgs _ _ (Nat.le_refl _)
theorem noNl_pad (m : Nat) (x : Int) : noNl (padB m (digB x)) := by
  refine noNl_app ?_ (noNl_digB x)
  intro b hb
  simp at hb
  rw [hb.2]
  decide
theorem noNl_cat {sep : ByteArray} (hs : noNl sep) {f : Nat → ByteArray} (hf : ∀ i, noNl (f i)) : ∀ k, noNl (cat sep f k)
  | 0 => noNl_none
  | k + 1 => by
    simp only [cat]
    split
    · exact noNl_app (noNl_cat hs hf k) (hf k)
    · exact noNl_app (noNl_app (noNl_cat hs hf k) hs) (hf k)
theorem noNl_line (m : Nat) (l : List Int) : noNl (lineV m l) := noNl_cat (by intro b hb; simp at hb; subst hb; decide) (fun i => noNl_pad m _) _
theorem cat_size {sep : ByteArray} {f : Nat → ByteArray} {m : Nat} : ∀ {k : Nat}, (∀ i, i < k → (f i).size = m) → 0 < k → (cat sep f k).size + sep.size = k * (m + sep.size)
  | 0, _, h => by omega
  | k + 1, h, _ => by
    have hk := h k (by omega)
    have e : (k + 1) * (m + sep.size) = k * (m + sep.size) + (m + sep.size) := by rw [Nat.add_mul, Nat.one_mul]
    simp only [cat]
    by_cases k0 : k = 0
    · subst k0
      rw [if_pos rfl, str_len, hk, e]
      have : (cat sep f 0).size = 0 := rfl
      omega
    · have := cat_size (f := f) (sep := sep) (m := m) (k := k) (fun i hi => h i (by omega)) (by omega)
      rw [if_neg k0, str_len, str_len, hk, e]
      omega
theorem wideN_ge (l : List Int) : ∀ {k i : Nat}, i < k → (digB (l.getD i 0)).size ≤ wideN l k
  | 0, i, h => by omega
  | k + 1, i, h => by
    simp only [wideN]
    by_cases e : i = k
    · subst e; exact Nat.le_max_right _ _
    · exact Nat.le_trans (wideN_ge l (k := k) (by omega)) (Nat.le_max_left _ _)
/-- A line whose numbers are no longer than the width. -/
theorem line_size {m N : Nat} {l : List Int} (hl : l.length = N) (h : ∀ i, i < N → (digB (l.getD i 0)).size ≤ m) : (lineV m l).size = if N = 0 then 0 else N * (m + 1) - 1 := by
  unfold lineV
  rw [hl]
  by_cases h0 : N = 0
  · subst h0; rfl
  · have := cat_size (sep := ⟨#[32]⟩) (f := fun i => padB m (digB (l.getD i 0))) (m := m) (k := N) (fun i hi => by have := h i hi; rw [padB_size]; omega) (by omega)
    have e : ByteArray.size ⟨#[32]⟩ = 1 := rfl
    rw [e] at this
    rw [if_neg h0]
    omega
/-- What the law has counted: lines, how long the last whole one was, how long this one is, whether all were as long. -/
structure Sc where
  n : Int
  g : Int
  c : Int
  e : Bool
def sc0 : Sc := ⟨1, -1, 0, true⟩
def scB (p : Sc) (b : UInt8) : Sc := if b = 10 then ⟨p.n + 1, p.c, 0, p.e && (decide (p.g < 0) || p.c == p.g)⟩ else ⟨p.n, p.g, p.c + 1, p.e⟩
def scE (p : Sc) : Sc := ⟨p.n, p.c, 0, p.e && (decide (p.g < 0) || p.c == p.g)⟩
def scT (s : ByteArray) (k : Nat) : Sc := (s.data.toList.take k).foldl scB sc0
theorem scT_zero (s : ByteArray) : scT s 0 = sc0 := by simp [scT]
theorem scT_succ (s : ByteArray) {k : Nat} (h : k < s.size) : scT s (k + 1) = scB (scT s k) (s[k]'h) := by
  have hl : k < s.data.toList.length := by rw [← Lib.size_eq]; exact h
  unfold scT
  rw [List.take_succ_eq_append_getElem hl, List.foldl_append]
  rfl
theorem scT_all (s : ByteArray) : scT s s.size = s.data.toList.foldl scB sc0 := by
  unfold scT
  rw [List.take_of_length_le (by rw [← Lib.size_eq]; exact Nat.le_refl _)]
theorem sc_bd (l : List UInt8) : ∀ (p : Sc) (k : Int), 0 ≤ k → 1 ≤ p.n → p.n ≤ k + 1 → -1 ≤ p.g → p.g ≤ k → 0 ≤ p.c → p.c ≤ k →
    1 ≤ (l.foldl scB p).n ∧ (l.foldl scB p).n ≤ k + l.length + 1 ∧ -1 ≤ (l.foldl scB p).g ∧ (l.foldl scB p).g ≤ k + l.length ∧ 0 ≤ (l.foldl scB p).c ∧ (l.foldl scB p).c ≤ k + l.length := by
  induction l with
  | nil => intro p k h0 h1 h2 h3 h4 h5 h6; simp; omega
  | cons b l ih =>
    intro p k h0 h1 h2 h3 h4 h5 h6
    have : ((b :: l).length : Int) = l.length + 1 := by simp
    rw [List.foldl_cons, this]
    have := ih (scB p b) (k + 1) (by omega) (by unfold scB; split <;> simp <;> omega) (by unfold scB; split <;> simp <;> omega) (by unfold scB; split <;> simp <;> omega) (by unfold scB; split <;> simp <;> omega) (by unfold scB; split <;> simp <;> omega) (by unfold scB; split <;> simp <;> omega)
    omega
theorem scT_bd (s : ByteArray) {k : Nat} (h : k ≤ s.size) : 1 ≤ (scT s k).n ∧ (scT s k).n ≤ k + 1 ∧ -1 ≤ (scT s k).g ∧ (scT s k).g ≤ k ∧ 0 ≤ (scT s k).c ∧ (scT s k).c ≤ k := by
  have := sc_bd (s.data.toList.take k) sc0 0 (by decide) (by decide) (by decide) (by decide) (by decide) (by decide) (by decide)
  have hl : (s.data.toList.take k).length = k := by
    rw [List.length_take]
    have : s.data.toList.length = s.size := (Lib.size_eq s).symm
    omega
  rw [hl] at this
  unfold scT
  omega
theorem fold_line : ∀ (l : List UInt8) (p : Sc), (∀ b ∈ l, b ≠ 10) → l.foldl scB p = ⟨p.n, p.g, p.c + l.length, p.e⟩
  | [], p, _ => by simp
  | b :: l, p, h => by
    rw [List.foldl_cons, fold_line l _ (fun x hx => h x (by simp [hx]))]
    have hb := h b (by simp)
    simp only [scB, if_neg hb, List.length_cons]
    congr 1
    omega
theorem app_list (a b : ByteArray) : (a ++ b).data.toList = a.data.toList ++ b.data.toList := by rw [ByteArray.data_append, Array.toList_append]
theorem scan2 {f : Nat → ByteArray} {n K : Nat} (h : ∀ i, i < n → noNl (f i) ∧ (f i).size = K) : ∀ k, k < n → (cat ⟨#[10]⟩ f (k + 1)).data.toList.foldl scB sc0 = ⟨(k : Int) + 1, if k = 0 then -1 else (K : Int), (K : Int), true⟩
  | 0, hk => by
    have e : cat ⟨#[10]⟩ f (0 + 1) = ⟨#[]⟩ ++ f 0 := rfl
    have hl : ((f 0).data.toList.length : Int) = K := by rw [← Lib.size_eq, (h 0 hk).2]
    rw [e, app_list]
    rw [show (⟨#[]⟩ : ByteArray).data.toList = [] from rfl, List.nil_append, fold_line _ _ (h 0 hk).1, hl]
    simp [sc0]
  | k + 1, hk => by
    have e : cat ⟨#[10]⟩ f (k + 1 + 1) = cat ⟨#[10]⟩ f (k + 1) ++ ⟨#[10]⟩ ++ f (k + 1) := by
      show (if k + 1 = 0 then _ else _) ++ f (k + 1) = _
      rw [if_neg (by omega)]
    have hl : ((f (k + 1)).data.toList.length : Int) = K := by rw [← Lib.size_eq, (h (k + 1) hk).2]
    rw [e, app_list, app_list, List.foldl_append, List.foldl_append, scan2 h k (by omega)]
    rw [show (⟨#[10]⟩ : ByteArray).data.toList = [10] from rfl, List.foldl_cons, List.foldl_nil, fold_line _ _ (h (k + 1) hk).1, hl]
    have e1 : (true && (decide ((if k = 0 then -1 else (K : Int)) < 0) || (K : Int) == (if k = 0 then -1 else (K : Int)))) = true := by
      by_cases k0 : k = 0
      · rw [if_pos k0]; simp
      · rw [if_neg k0]; simp
    simp only [scB, if_pos, e1]
    simp
/-- How many lines end. -/
def nlc (s : ByteArray) : Nat := s.data.toList.count 10
theorem nlc_app (a b : ByteArray) : nlc (a ++ b) = nlc a + nlc b := by
  unfold nlc
  rw [app_list, List.count_append]
theorem nlc_none {s : ByteArray} (h : noNl s) : nlc s = 0 := by
  unfold nlc
  rw [List.count_eq_zero]
  intro hm
  exact h 10 hm rfl
theorem sc_count : ∀ (l : List UInt8) (p : Sc), (l.foldl scB p).n = p.n + (l.count 10 : Nat)
  | [], p => by simp
  | b :: l, p => by
    rw [List.foldl_cons, sc_count l, List.count_cons]
    by_cases h : b = 10
    · subst h
      simp [scB]
      omega
    · simp [scB, h]
theorem nlc_cat {sep : ByteArray} {f : Nat → ByteArray} {q : Nat} : ∀ {k : Nat}, (∀ i, i ≤ k → nlc (f i) = q) → nlc (cat sep f (k + 1)) = k * nlc sep + (k + 1) * q
  | 0, h => by
    have e : cat sep f (0 + 1) = ⟨#[]⟩ ++ f 0 := rfl
    rw [e, nlc_app, h 0 (by omega)]
    have : nlc ⟨#[]⟩ = 0 := rfl
    omega
  | k + 1, h => by
    have e : cat sep f (k + 1 + 1) = cat sep f (k + 1) ++ sep ++ f (k + 1) := by
      show (if k + 1 = 0 then _ else _) ++ f (k + 1) = _
      rw [if_neg (by omega)]
    rw [e, nlc_app, nlc_app, nlc_cat (k := k) (fun i hi => h i (by omega)), h (k + 1) (by omega)]
    rw [Nat.add_mul (k + 1) 1 q, Nat.add_mul k 1 (nlc sep)]
    omega
theorem head_rowN {s d : List Int} (h : arrOk s d = true) (hs : s ≠ []) : ((rowN s d : Nat) : Int) = s.getD 0 0 := by
  have := head_bd h
  unfold rowN
  rw [rowsF_length, if_pos ⟨h, hs⟩]
  omega
/-- The lines of an array of rank 2. -/
theorem lines2 {m : Nat} {s d : List Int} (h : arrOk s d = true) (hs : s ≠ []) (k : Nat) (hk : rowN s d = k + 1) : nlc (part2 m s d) = k := by
  unfold part2
  rw [hk, nlc_cat (q := 0) (fun i _ => nlc_none (noNl_line m _))]
  have : nlc ⟨#[10]⟩ = 1 := rfl
  rw [this, Nat.mul_one]
  omega
theorem facts1 {s d : List Int} (ho : arrOk s d = true) (hr : s.length < 2) : (scT (showV s d) (showV s d).size).n = 1 := by
  have e : showV s d = lineV 0 d := by unfold showV; rw [if_pos ho, if_pos hr]
  rw [e, scT_all, sc_count]
  have := nlc_none (noNl_line 0 d)
  unfold nlc at this
  rw [this]
  rfl
theorem facts2 {s d : List Int} (ho : arrOk s d = true) (hr : s.length = 2) : (scE (scT (showV s d) (showV s d).size)).e = true ∧ ((s.getD 0 0 = 0 ∧ showV s d = ⟨#[]⟩) ∨ (s.getD 0 0 ≠ 0 ∧ (scT (showV s d) (showV s d).size).n = s.getD 0 0)) := by
  have hne : s ≠ [] := fun e => by rw [e] at hr; cases hr
  have e : showV s d = part2 (wideV d).toNat s d := by unfold showV; rw [if_pos ho, if_neg (by omega), if_pos hr]
  have hw : (wideV d).toNat = wideN d d.length := by unfold wideV; rw [if_pos (arrOk_num ho), Int.toNat_natCast]
  have hR := head_rowN ho hne
  rw [e, scT_all, hw]
  cases hn : rowN s d with
  | zero =>
    have e0 : part2 (wideN d d.length) s d = ⟨#[]⟩ := by unfold part2; rw [hn]; rfl
    rw [e0]
    exact ⟨rfl, .inl ⟨by omega, rfl⟩⟩
  | succ k =>
    match s, hne with
    | n0 :: t, hne =>
      obtain ⟨cnt, N, rfl, h1, h2, h3, h4, h5⟩ := rows_facts ho
      have hc : cnt = k + 1 := by have : rowN ((cnt : Int) :: t) d = cnt := by { unfold rowN; omega }; omega
      subst hc
      have hf : ∀ i, i < k + 1 → noNl (lineV (wideN d d.length) ((rowsF (((k + 1 : Nat) : Int) :: t) d).getD (2 * i + 1) [])) ∧ (lineV (wideN d d.length) ((rowsF (((k + 1 : Nat) : Int) :: t) d).getD (2 * i + 1) [])).size = if N = 0 then 0 else N * (wideN d d.length + 1) - 1 := fun i hi => by
        obtain ⟨_, D, q2, q3, _, q5⟩ := h5 i hi
        refine ⟨noNl_line _ _, ?_⟩
        rw [q2]
        refine line_size q3 fun j hj => ?_
        rw [q5 j hj]
        refine wideN_ge d ?_
        have : (i + 1) * N ≤ (k + 1) * N := Nat.mul_le_mul_right N (by omega)
        rw [h3, Nat.add_mul, Nat.one_mul] at this
        omega
      have := scan2 hf k (by omega)
      unfold part2
      rw [hn, this]
      refine ⟨?_, .inr ⟨by simp; omega, by simp⟩⟩
      unfold scE
      by_cases k0 : k = 0
      · rw [if_pos k0]; simp
      · rw [if_neg k0]; simp
theorem facts3 {s d : List Int} (ho : arrOk s d = true) (hr : s.length = 3) : d.length = 0 ∨ s.getD 0 0 * s.getD 1 0 ≤ (scT (showV s d) (showV s d).size).n := by
  by_cases hd : d.length = 0
  · exact .inl hd
  · refine .inr ?_
    match s, hr with
    | [n0, n1, n2], _ =>
      have e : showV [n0, n1, n2] d = part3 (wideV d).toNat [n0, n1, n2] d := by unfold showV; rw [if_pos ho, if_neg (by simp), if_neg (by simp)]
      obtain ⟨r1, r2, r3⟩ := rows_are ho (by simp)
      have hR := head_rowN ho (by simp)
      simp only [List.getD_cons_zero, List.getD_cons_succ] at hR ⊢
      obtain ⟨cnt, N, h0, h1, h2, h3, h4, h5⟩ := rows_facts ho
      have hcN : rowN [n0, n1, n2] d = cnt := by omega
      have hc0 : 0 < cnt := by
        rcases Nat.eq_zero_or_pos cnt with h | h
        · rw [h, Nat.zero_mul] at h3; omega
        · exact h
      obtain ⟨k, rfl⟩ : ∃ k, cnt = k + 1 := ⟨cnt - 1, by omega⟩
      have hN0 : 0 < N := by
        rcases Nat.eq_zero_or_pos N with h | h
        · rw [h, Nat.mul_zero] at h3; omega
        · exact h
      have hq : ∀ i, i ≤ k → nlc (part2 (wideV d).toNat ((rowsF [n0, n1, n2] d).getD (2 * i) []) ((rowsF [n0, n1, n2] d).getD (2 * i + 1) [])) = (n1 - 1).toNat ∧ 0 < n1 := fun i hi => by
        obtain ⟨q1, D, q2, q3, q4, _⟩ := h5 i (by omega)
        rw [q1, q2]
        have hz := arrOk_size q4
        rw [q3] at hz
        have hR2 := head_rowN q4 (by simp)
        simp only [List.getD_cons_zero] at hR2
        have hpos : 0 < rowN [n1, n2] D := by
          rcases Nat.eq_zero_or_pos (rowN [n1, n2] D) with h | h
          · exfalso
            rw [h] at hR2
            have hn1 : n1 = 0 := by omega
            subst hn1
            have k4 := (sizeV_ok (arrOk_shape q4)).2.2.2
            rw [prodV_cons, Int.zero_mul] at k4
            omega
          · exact h
        refine ⟨?_, by omega⟩
        rw [lines2 q4 (by simp) (rowN [n1, n2] D - 1) (by omega)]
        omega
      have hn1 := (hq 0 (by omega)).2
      rw [e, scT_all, sc_count]
      have hc := nlc_cat (sep := ⟨#[10, 10]⟩) (f := fun i => part2 (wideV d).toNat ((rowsF [n0, n1, n2] d).getD (2 * i) []) ((rowsF [n0, n1, n2] d).getD (2 * i + 1) [])) (q := (n1 - 1).toNat) (k := k) (fun i hi => (hq i hi).1)
      have hp : nlc (part3 (wideV d).toNat [n0, n1, n2] d) = k * 2 + (k + 1) * (n1 - 1).toNat := by
        unfold part3
        rw [hcN]
        exact hc
      unfold nlc at hp
      rw [hp]
      obtain ⟨j, rfl⟩ : ∃ j : Nat, n1 = (j : Int) + 1 := ⟨(n1 - 1).toNat, by omega⟩
      have ej : ((j : Int) + 1 - 1).toNat = j := by omega
      rw [ej, h0]
      have e1 : (((k + 1 : Nat) : Int)) * ((j : Int) + 1) = ((k + 1) * j : Nat) + (k : Int) + 1 := by
        rw [Int.mul_add]
        simp
        omega
      rw [e1]
      have : sc0.n = 1 := rfl
      rw [this]
      generalize (k + 1) * j = z
      omega
/-- What the law has counted ahead of its k-th round. -/
def scF (s : ByteArray) (k : Nat) : Sc := if k ≤ s.size then scT s k else scE (scT s s.size)
theorem scF_zero (s : ByteArray) : scF s 0 = sc0 := by unfold scF; rw [if_pos (by omega), scT_zero]
theorem scF_in (s : ByteArray) {k : Nat} (h : k < s.size) : scF s (k + 1) = scB (scF s k) (s[k]'h) := by
  unfold scF
  rw [if_pos (by omega), if_pos (by omega), scT_succ s h]
theorem scF_end (s : ByteArray) : scF s (s.size + 1) = scE (scF s s.size) := by
  unfold scF
  rw [if_neg (by omega), if_pos (by omega)]
theorem scF_bd (s : ByteArray) {k : Nat} (h : k ≤ s.size) : 1 ≤ (scF s k).n ∧ (scF s k).n ≤ k + 1 ∧ -1 ≤ (scF s k).g ∧ (scF s k).g ≤ k ∧ 0 ≤ (scF s k).c ∧ (scF s k).c ≤ k := by
  unfold scF
  rw [if_pos h]
  exact scT_bd s h
theorem showV_le {s d : List Int} (ho : arrOk s d = true) : (showV s d).size ≤ 1300000000 := by
  obtain ⟨z1, z2, z3, z4⟩ := wide_bd ho
  unfold showV
  rw [if_pos ho]
  split
  · have := lineV_le (m := 0) (by decide) (arrOk_num ho) (arrOk_len ho)
    omega
  · next h =>
    have hne : s ≠ [] := fun e => h (by rw [e]; decide)
    split
    · have := part2_le z4 ho hne
      omega
    · obtain ⟨h1, _, h3⟩ := rows_are ho hne
      have hs3 : (s.drop 1) ≠ [] := fun e => by
        have := congrArg List.length e
        simp at this
        omega
      have := cat_le (sep := ⟨#[10, 10]⟩) (f := fun i => part2 (wideV d).toNat ((rowsF s d).getD (2 * i) []) ((rowsF s d).getD (2 * i + 1) [])) (M := 4140600) (by decide) (k := rowN s d) (fun i hi => by show (part2 _ _ _).size ≤ _; rw [(h3 i hi).1]; exact part2_le z4 (h3 i hi).2 hs3)
      unfold part3
      have : rowN s d * (4140600 + 2) ≤ 300 * 4140602 := Nat.mul_le_mul_right _ h1
      omega
end Go.Proofs.YtcaidhmolnnikaaDoor
namespace Go.Proofs.YtcaidhmolnnikaaDoor
open Go.RowKit
set_option linter.unusedVariables false
set_option linter.unusedSimpArgs false
theorem none_empty : (⟨#[]⟩ : ByteArray).toList.isEmpty = true := by
  have h : (⟨#[]⟩ : ByteArray).toList = [] := by
    unfold ByteArray.toList ByteArray.toList.loop
    rfl
  rw [h]; rfl
/-- The lengths of the first k shown numbers, added. -/
def sumB (l : List Int) : Nat → Nat
  | 0 => 0
  | k + 1 => sumB l k + (shN (l.getD k 0)).size
theorem shN_size (x : Int) : (shN x).size ≤ 22 := by
  unfold shN
  split
  · next h => exact digB_size h
  · exact Nat.zero_le _
theorem sumB_le (l : List Int) : ∀ k, sumB l k ≤ 22 * k
  | 0 => Nat.le_refl _
  | k + 1 => by
    have h1 := sumB_le l k
    have h2 := shN_size (l.getD k 0)
    simp only [sumB]
    omega
theorem rowB_size {l : List Int} (h : l.all ok = true) : ∀ {k : Nat}, k ≤ l.length → 0 < k → (rowB l k).size + 1 = sumB l k + k
  | 0, _, h0 => by omega
  | k + 1, hk, _ => by
    have e : ByteArray.size ⟨#[32]⟩ = 1 := rfl
    have es : shN (l.getD k 0) = digB (l.getD k 0) := by unfold shN; rw [if_pos (ok_at h (k := k) (by omega))]
    simp only [rowB, sumB, es]
    by_cases k0 : k = 0
    · subst k0
      rw [if_pos rfl, str_len]
      have : (rowB l 0).size = 0 := rfl
      simp only [sumB]
      omega
    · have h1 := rowB_size h (k := k) (by omega) (by omega)
      rw [if_neg k0, str_len, str_len]
      omega
theorem wide_sum {l : List Int} (h : l.all ok = true) : ∀ {k : Nat}, k ≤ l.length → wideN l k ≤ sumB l k
  | 0, _ => Nat.le_refl _
  | k + 1, hk => by
    have h1 := wide_sum h (k := k) (by omega)
    have es : shN (l.getD k 0) = digB (l.getD k 0) := by unfold shN; rw [if_pos (ok_at h (k := k) (by omega))]
    simp only [wideN, sumB, es]
    omega
theorem wide_neg {l : List Int} (h : wideV l < 0) : rowV l = ⟨#[]⟩ := by
  unfold wideV at h
  unfold rowV
  split at h
  · omega
  · next q => rw [if_neg q]
theorem wide_none {l : List Int} (h : ¬ wideV l < 0) (h0 : l.length = 0) : wideV l = 0 := by
  have : l = [] := List.eq_nil_of_length_eq_zero h0
  subst this
  rfl
theorem wide_row {l : List Int} (h : ¬ wideV l < 0) (h0 : 0 < l.length) : ((rowV l).size : Int) = (sumB l l.length : Int) + (l.length : Int) - 1 ∧ wideV l ≤ (sumB l l.length : Int) := by
  unfold wideV at h ⊢
  unfold rowV
  split at h
  · next q =>
    have h1 := rowB_size q (Nat.le_refl _) h0
    have h2 := wide_sum q (Nat.le_refl l.length)
    rw [if_pos q, if_pos q]
    omega
  · omega
end Go.Proofs.YtcaidhmolnnikaaDoor
