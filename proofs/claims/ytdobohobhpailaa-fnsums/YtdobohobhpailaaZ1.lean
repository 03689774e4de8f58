/-
  Several walks, one behind the other: ImplArr2, ImplPlace, ImplShape, SpecArr2, ImplArr3, ImplRows1, ImplRows2, ImplRows3, Grow, SpecMake4, RowsO, ImplRed1, ImplBack, ImplRed2, Ones, Twos, Two, ImplEach0, ImplEach1, ImplEach2, ImplMap, ImplAlike, ImplSame, ImplFit, ImplEach3, ImplRed3, ImplAlong, CutI, ImplMake1, ImplMake3, Pair5.
-/
import Derived.Test.YtdobohobhpailaaArr
import Derived.Test.YtdobohobhpailaaAppend
import Derived.Test.YtdobohobhpailaaLaw3
import Derived.Test.YtdobohobhpailaaImplShape0
import Derived.Laws.StructEq
import Derived.Test.YtdobohobhpailaaSpecArr
import Derived.OwnWalk
import Derived.Laws.ResultCell
import Derived.Test.YtdobohobhpailaaImplArr1
import Derived.RangeFuncNested
import Derived.RangeFuncBound
import Derived.RangeFuncCalls
import Derived.RangeFuncLeaves
import Derived.Shelf.Abstract
import Derived.Shelf.RegionOpen
import Derived.WalkKit
import Derived.OwnWalkIn
import Derived.TacticsInMore
import Derived.LoopNIn
import Derived.LoopIn
import Derived.Test.YtdobohobhpailaaRowsI
import Derived.Test.YtdobohobhpailaaSpecRows2
import Derived.Deep.Upon
import Derived.Maps.AppendAt
import Derived.Deep.AppendLies
import Derived.Deep.RegionLaw
import Derived.Test.YtdobohobhpailaaMakeM
import Derived.Test.YtdobohobhpailaaArrs
import Derived.RangeFuncBox
import Derived.Test.YtdobohobhpailaaReduceM
import Derived.Test.YtdobohobhpailaaSmall
import Derived.Laws.Tables
import Derived.Test.YtdobohobhpailaaEachP
import Derived.DeepKeys4
import Derived.WideKeyEntry
import Derived.RegionTactic
import Derived.ChangeAlike
import Derived.Test.YtdobohobhpailaaEachM
import Derived.Test.YtdobohobhpailaaReduceN
import Derived.Laws.CopyOwn
namespace Go.Proofs.Ytdobohobhpailaa
open Go.RowKit
set_option linter.unusedVariables false
set_option linter.unusedSimpArgs false
set_option maxRecDepth 20000 in
/-- Out of a list into a new one of its length. -/
theorem copy_all {w : World} {a : Option Addr} {l : List Int} (h1 : Ints w a l) (ty : TypeId) (d : Nat) (Z : Array Value) (hZ : Z.size = l.length) :
    (Builtin.copy_ #[24, 24] ty #[.slice (some ⟨w.heap.size, 0, none⟩) l.length l.length, .slice a l.length d]).run Try.prog (w.alloc (.cells Z 3)) =
      .ok (.int .i64 l.length) (w.alloc (.cells (vals l) 3)) := by
  by_cases h0 : l.length = 0
  · obtain rfl : l = [] := List.eq_nil_of_length_eq_zero h0
    have e : Z = vals [] := by simp at hZ; simp [vals, hZ]
    rw [e]
    exact run_copy_none (P := Try.prog) _ 24 24 ty 3 _ _ _ _ _ _ Try.underlying24 int_size rfl
  · rcases h1 with rfl | ⟨b, off, rfl, hb, hc⟩
    · exact absurd rfl h0
    · have hg : (w.alloc (.cells Z 3)).heap[w.heap.size]? = some (.cells Z 3 (0, 0)) := heap_alloc_new _ _
      have hc' : ∀ k, k < l.length → (w.alloc (.cells Z 3)).cell? ⟨b, off + k, none⟩ = some (.int .i64 (l.getD k 0)) := by
        intro k hk
        rw [(bAlloc (Below.refl w.heap.size w) _).cell (p := ⟨b, off + k, none⟩) hb]
        exact hc k hk
      have q := run_copy_row Try.prog (w.alloc (.cells Z 3)) 24 24 ty 3 w.heap.size 0 l.length l.length ⟨b, off, none⟩ l.length d Z 3 (l.map (Value.int .i64)) Try.underlying24 int_size hg (by rw [List.length_map]; simp) (ints_src hc') (by simp; omega) (by intro v hv; obtain ⟨x, _, rfl⟩ := List.mem_map.1 hv; rfl)
      rw [q, setRow_last, List.length_map]
      congr 3
      simp [vals, hZ]
set_option maxHeartbeats 1000000 in
/-- copiedList: a copy in new memory. -/
theorem copied_impl {l : List Int} {a : Option Addr} {w : World} (c : Nat) (h1 : Ints w a l) (hl : l.length ≤ 1048576) :
    Calls Try.prog 42 #[.slice a l.length c] w fun e w' => e = .returned (.slice (some ⟨w.heap.size, 0, none⟩) l.length l.length) ∧ w' = w.alloc (.cells (vals l) 3) := by
  have hmk : ∀ w, (Instr.makeSlice 24 (.int .i64 (l.length : Int)) (.int .i64 (l.length : Int))).run Try.prog w = .ok (.slice (some ⟨w.heap.size, 0, none⟩) l.length l.length) (w.alloc (.cells (vals (List.replicate l.length 0)) 3)) := fun w => make_ints l.length (by omega) w
  have hcp : (Builtin.copy_ #[24, 24] 3 #[.slice (some ⟨w.heap.size, 0, none⟩) l.length l.length, .slice a l.length c]).run Try.prog (w.alloc (.cells (vals (List.replicate l.length 0)) 3)) = .ok (.int .i64 l.length) (w.alloc (.cells (vals l) 3)) := copy_all h1 _ c _ (by simp [vals])
  clear h1
  go_enter Try.func42, Try.ntmps42
  go_wp2
  go_ret
  exact ⟨rfl, rfl⟩
/-- copiedList, as a contract on values. -/
theorem copied_new {l : List Int} {w : World} {v : Value} (h : IntsI w v l) (hl : l.length ≤ 1048576) :
    Calls Try.prog 42 #[v] w fun e w' => ∃ a' c', e = .returned (.slice a' l.length c') ∧ Piece w.heap.size w'.heap.size w' (.slice a' l.length c') l ∧ Below w.heap.size w w' := by
  obtain ⟨a, c, rfl, _, i⟩ := h
  refine (copied_impl c i hl).mono ?_
  rintro e w' ⟨rfl, rfl⟩
  exact ⟨_, _, rfl, OwnInts.piece (ownInts_new w l) (Nat.le_refl _) (by simp) _, bAlloc (Below.refl _ _) _⟩
set_option maxRecDepth 20000 in
set_option maxHeartbeats 4000000 in
/-- copyOf. -/
theorem copyOf_impl {s d : List Int} {w : World} {v : Value} (h : ArrI w v s d) (hs : s.length ≤ 1048576) (hd : d.length ≤ 1048576) :
    Calls Try.prog 45 #[v] w fun e w' => ∃ v', e = .returned v' ∧ Arr w.heap.size w'.heap.size w' v' s d ∧ Below w.heap.size w w' := by
  obtain ⟨a, c, b, e, rfl, h1, h2, g1, g2⟩ := h
  have H1 : Hid (IntsI w (.slice a s.length c) s) := ⟨a, c, rfl, g1, h1⟩
  have H2 : Hid (IntsI w (.slice b d.length e) d) := ⟨b, e, rfl, g2, h2⟩
  have HS : Hid (s.length ≤ 1048576) := hs
  have HD : Hid (d.length ≤ 1048576) := hd
  clear h1 h2 g1 g2 hs hd
  go_enter Try.func45, Try.ntmps45
  go_wp2
  generalize hW : (w.alloc (.cells #[.slice a s.length c, .slice b d.length e] 26)).alloc (.cells #[.slice none 0 0, .slice none 0 0] 26) = W
  have HBW : Hid (Below w.heap.size w W) := by rw [← hW]; exact bAlloc (bAlloc (Below.refl _ _) _) _
  have X : Hid (Box W w.heap.size (.slice a s.length c) (.slice b d.length e) 26) := by rw [← hW]; exact heap_alloc2_old w _ _
  have Y : Hid (Box W (w.heap.size + 1) (.slice none 0 0) (.slice none 0 0) 26) := by rw [← hW]; exact heap_alloc2_new w _ _
  have LW : Hid (w.heap.size + 1 < W.heap.size) := Y.out.lt
  clear hW
  have x0 := X.out.c0
  have x1 := X.out.c1
  go_region_held3 (fun w' => w'.cell? ⟨w.heap.size, 0, none⟩ = some (.slice a s.length c) ∧ w'.cell? ⟨w.heap.size, 1, none⟩ = some (.slice b d.length e))
    (first | exact ⟨z0 _ _, z1 _ _⟩ | exact ⟨y0, y1⟩ | exact ⟨v0, v1⟩ | exact ⟨x0, x1⟩)
    (first
      | (go_at_call_of 42 (Value.slice a s.length c); refine (copied_new (H1.out.keep (bTrans HBW.out ((Below.refl W.heap.size W).drew))) HS.out).mono ?_; rintro r w1 ⟨ax, cx, rfl, ha, hb⟩; have PX : Hid (Piece W.heap.size w1.heap.size w1 (.slice ax s.length cx) s) := ha; have HB1 : Hid (Below W.heap.size W w1) := bTrans ((Below.refl W.heap.size W).drew) hb; have v0 := (X.out.keep HB1.out).c0; have v1 := (X.out.keep HB1.out).c1; clear ha hb)
      | (go_at_call_of 42 (Value.slice b d.length e); refine (copied_new (H2.out.keep (bTrans HBW.out HB1.out)) HD.out).mono ?_; rintro r w2 ⟨ay, cy, rfl, ha, hb⟩; have PY : Hid (Piece w1.heap.size w2.heap.size w2 (.slice ay d.length cy) d) := ha; have PX2 : Hid (Piece W.heap.size w1.heap.size w2 (.slice ax s.length cx) s) := PX.out.keep hb; have S12 : Hid (w1.heap.size ≤ w2.heap.size) := hb.size; have HB2 : Hid (Below W.heap.size W w2) := bTrans HB1.out hb; have y0 := (X.out.keep HB2.out).c0; have y1 := (X.out.keep HB2.out).c1; have q0 := (Y.out.keep HB2.out).c0; have q1 := (Y.out.keep HB2.out).c1; have f0 : w2.frozen? ⟨w.heap.size + 1, 0, none⟩ = false := free_at (Y.out.keep HB2.out) 0; have f1 : w2.frozen? ⟨w.heap.size + 1, 1, none⟩ = false := free_at (Y.out.keep HB2.out) 1; have z : ∀ u v, Box ((w2.setCell ⟨w.heap.size + 1, 0, none⟩ u).setCell ⟨w.heap.size + 1, 1, none⟩ v) w.heap.size (.slice a s.length c) (.slice b d.length e) 26 := (fun u v => ((X.out.keep HB2.out).win (win_setCell _ _ _ _) (.inl (Nat.lt_succ_self _))).win (win_setCell _ _ _ _) (.inl (Nat.lt_succ_self _))); have z0 := (fun u v => (z u v).c0); have z1 := (fun u v => (z u v).c1); have HR : Hid (((w2.setCell ⟨w.heap.size + 1, 0, none⟩ (.slice ax s.length cx)).setCell ⟨w.heap.size + 1, 1, none⟩ (.slice ay d.length cy)).heap[w.heap.size + 1]? = some (.cells #[.slice ax s.length cx, .slice ay d.length cy] 26 (0, 0))) := arr_stored (Y.out.keep HB2.out); clear ha hb z))
  go_wp2
  refine bodyPost_ret (v := .agg #[.slice ax s.length cx, .slice ay d.length cy]) (results_arr rfl _ _ (w.heap.size + 1) _ _ rfl HR.out) rfl ?_
  refine ⟨_, rfl, ?_, below_setCell (below_setCell (bTrans HBW.out HB2.out) (by omega) _ _) (by omega) _ _⟩
  have S1 := HB1.out.size
  have S2 := S12.out
  have S3 := LW.out
  have A : Arr W.heap.size w2.heap.size w2 (.agg #[.slice ax s.length cx, .slice ay d.length cy]) s d := ⟨_, _, rfl, PX2.out.mono (Nat.le_refl _) S12.out, PY.out.mono S1 (Nat.le_refl _), PX2.out.apart PY.out (.inl (Nat.le_refl _))⟩
  exact ((A.setCell S3 _ _).setCell S3 _ _).mono (by omega) (by simp [size_setCell])
end Go.Proofs.Ytdobohobhpailaa
namespace Go.Proofs.Ytdobohobhpailaa
open Go.RowKit
set_option linter.unusedVariables false
/-- Arrays of three numbers, compared as a whole. -/
theorem eq_axes (w : World) (i j k i' j' k' : Int) : (Op.equalIn 10000 64 (.agg #[.int .i64 i, .int .i64 j, .int .i64 k]) (.agg #[.int .i64 i', .int .i64 j', .int .i64 k'])).run Try.prog w = .ok (i == i' && (j == j' && k == k')) w := by
  have hs : (sizeOf 3).run Try.prog w = .ok 1 w := by kernel_rfl
  have p0 : ∀ a b c : Int, (part 3 #[.int .i64 a, .int .i64 b, .int .i64 c] 0).run Try.prog w = .ok (.int .i64 a) w := fun a b c => by kernel_rfl
  have p1 : ∀ a b c : Int, (part 3 #[.int .i64 a, .int .i64 b, .int .i64 c] 1).run Try.prog w = .ok (.int .i64 b) w := fun a b c => by kernel_rfl
  have p2 : ∀ a b c : Int, (part 3 #[.int .i64 a, .int .i64 b, .int .i64 c] 2).run Try.prog w = .ok (.int .i64 c) w := fun a b c => by kernel_rfl
  have ei : ∀ a b : Int, (Op.equalIn (9998 + 1) 3 (.int .i64 a) (.int .i64 b)).run Try.prog w = .ok (a == b) w := fun a b => run_equalIn_int w 9998 3 .i64 .i64 a b Try.underlying3
  show (Op.equalIn (9998 + 1 + 1) 64 _ _).run Try.prog w = _
  rw [Op.equalIn]
  generalize 9998 + 1 = d at ei ⊢
  simp only [Sem.run_bind, run_underlying Try.underlying64, Result.andThen_ok, hs]
  simp only [Std.Legacy.Range.forIn_eq_forIn_range', Std.Legacy.Range.size, List.range', Nat.sub_zero, Nat.add_sub_cancel, Nat.div_one, List.forIn_cons, List.forIn_nil, Sem.run_bind]
  cases h0 : i == i' <;> cases h1 : j == j' <;> cases h2 : k == k' <;> simp [p0, p1, p2, ei, h0, h1, h2]
theorem newInts_2 (w : World) (A : Obj) (l : List Int) {B : Nat} (hB : B ≤ w.heap.size) (hl : l.length ≤ 1073741824) : NewInts B ((w.alloc A).alloc (.cells (vals l) 3)) (.slice (some ⟨w.heap.size + 1, 0, none⟩) l.length l.length) l := by
  have e : (w.alloc A).heap.size = w.heap.size + 1 := by simp
  rw [← e]
  exact newInts_alloc (w.alloc A) l (by omega) hl
end Go.Proofs.Ytdobohobhpailaa
namespace Go.Proofs.Ytdobohobhpailaa
open Go.RowKit
set_option linter.unusedVariables false
theorem sizeV_0 : sizeV [] = 1 := by simp [sizeV, prodV]
theorem sizeV_1 (x : Int) : sizeV [x] = if 0 ≤ x ∧ x ≤ 300 then (if 300 < x then -1 else x) else -1 := by simp [sizeV, dimOk, prodV]
theorem sizeV_2 (x y : Int) : sizeV [x, y] = if (0 ≤ x ∧ x ≤ 300) ∧ 0 ≤ y ∧ y ≤ 300 then (if 300 < x * y then -1 else x * y) else -1 := by simp [sizeV, dimOk, prodV]
theorem sizeV_3 (x y z : Int) : sizeV [x, y, z] = if (0 ≤ x ∧ x ≤ 300) ∧ (0 ≤ y ∧ y ≤ 300) ∧ 0 ≤ z ∧ z ≤ 300 then (if 300 < x * y * z then -1 else x * y * z) else -1 := by simp [sizeV, dimOk, prodV]
theorem dim3 (x : Int) : x < 0 ∨ (0 ≤ x ∧ 300 < x) ∨ (0 ≤ x ∧ x ≤ 300) := by omega
/-- The numbers of a shape by value. -/
def Ext (l : List Int) (n : Nat) (x y z : Int) : Prop := n = l.length ∧ x = l.getD 0 0 ∧ y = l.getD 1 0 ∧ z = l.getD 2 0
theorem ext_bad {l : List Int} {a : Option Addr} {w : World} {c : Nat} (hs : sizeV l < 0)
    (h : Calls Try.prog 43 #[.slice a l.length c] w fun e w' => e = .returned (.tuple #[.agg #[.int .i64 0, .int .i64 0, .int .i64 0, .int .i64 0], .bool false]) ∧ Below w.heap.size w w') :
    Calls Try.prog 43 #[.slice a l.length c] w fun e w' => ∃ (n : Nat) (x y z : Int), e = .returned (.tuple #[.agg #[.int .i64 n, .int .i64 x, .int .i64 y, .int .i64 z], .bool (decide (0 ≤ sizeV l))]) ∧ (0 ≤ sizeV l → Ext l n x y z) ∧ Below w.heap.size w w' := by
  refine h.mono ?_
  rintro e w' ⟨rfl, hb⟩
  exact ⟨0, 0, 0, 0, by rw [show decide (0 ≤ sizeV l) = false by simp; omega]; rfl, fun h => by omega, hb⟩
theorem ext_good {l : List Int} {a : Option Addr} {w : World} {c n : Nat} {x y z : Int} (hs : 0 ≤ sizeV l) (he : Ext l n x y z)
    (h : Calls Try.prog 43 #[.slice a l.length c] w fun e w' => e = .returned (.tuple #[.agg #[.int .i64 n, .int .i64 x, .int .i64 y, .int .i64 z], .bool true]) ∧ Below w.heap.size w w') :
    Calls Try.prog 43 #[.slice a l.length c] w fun e w' => ∃ (n : Nat) (x y z : Int), e = .returned (.tuple #[.agg #[.int .i64 n, .int .i64 x, .int .i64 y, .int .i64 z], .bool (decide (0 ≤ sizeV l))]) ∧ (0 ≤ sizeV l → Ext l n x y z) ∧ Below w.heap.size w w' := by
  refine h.mono ?_
  rintro e w' ⟨rfl, hb⟩
  exact ⟨n, x, y, z, by rw [show decide (0 ≤ sizeV l) = true by simpa using hs], fun _ => he, hb⟩
/-- A list as a shape by value. -/
theorem ext_impl {l : List Int} {a : Option Addr} {w : World} (c : Nat) (h1 : Ints w a l) :
    Calls Try.prog 43 #[.slice a l.length c] w fun e w' => ∃ (n : Nat) (x y z : Int), e = .returned (.tuple #[.agg #[.int .i64 n, .int .i64 x, .int .i64 y, .int .i64 z], .bool (decide (0 ≤ sizeV l))]) ∧ (0 ≤ sizeV l → Ext l n x y z) ∧ Below w.heap.size w w' := by
  by_cases hl : 3 < l.length
  · exact ext_bad (by unfold sizeV; rw [if_pos hl]; decide) (ext_long l a c w hl)
  · rcases len3 (by omega : l.length ≤ 3) with rfl | ⟨x, rfl⟩ | ⟨x, y, rfl⟩ | ⟨x, y, z, rfl⟩
    · exact ext_good (n := 0) (x := 0) (y := 0) (z := 0) (by rw [sizeV_0]; decide) ⟨rfl, rfl, rfl, rfl⟩ (ext_0_ok a c w h1)
    · rcases dim3 x with hb | ⟨hb0, hb⟩ | ⟨x0, x1⟩
      · exact ext_bad (by rw [sizeV_1, if_neg (by omega)]; decide) (ext_1_neg0 x a c w h1  hb)
      · exact ext_bad (by rw [sizeV_1, if_neg (by omega)]; decide) (ext_1_great0 x a c w h1  hb0 hb)
      exact ext_good (n := 1) (x := x) (y := 0) (z := 0) (by rw [sizeV_1, if_pos (by omega), if_neg (by omega)]; exact x0) ⟨rfl, rfl, rfl, rfl⟩ (ext_1_ok x a c w h1 x0 x1)
    · rcases dim3 x with hb | ⟨hb0, hb⟩ | ⟨x0, x1⟩
      · exact ext_bad (by rw [sizeV_2, if_neg (by omega)]; decide) (ext_2_neg0 x y a c w h1  hb)
      · exact ext_bad (by rw [sizeV_2, if_neg (by omega)]; decide) (ext_2_great0 x y a c w h1  hb0 hb)
      rcases dim3 y with hb | ⟨hb0, hb⟩ | ⟨y0, y1⟩
      · exact ext_bad (by rw [sizeV_2, if_neg (by omega)]; decide) (ext_2_neg1 x y a c w h1 x0 x1 hb)
      · exact ext_bad (by rw [sizeV_2, if_neg (by omega)]; decide) (ext_2_great1 x y a c w h1 x0 x1 hb0 hb)
      by_cases hp : 300 < x * y
      · exact ext_bad (by rw [sizeV_2, if_pos (by omega), if_pos hp]; decide) (ext_2_much x y a c w h1 x0 x1 y0 y1 hp)
      exact ext_good (n := 2) (x := x) (y := y) (z := 0) (by rw [sizeV_2, if_pos (by omega), if_neg (by omega)]; exact Int.mul_nonneg x0 y0) ⟨rfl, rfl, rfl, rfl⟩ (ext_2_ok x y a c w h1 x0 x1 y0 y1 (by omega))
    · rcases dim3 x with hb | ⟨hb0, hb⟩ | ⟨x0, x1⟩
      · exact ext_bad (by rw [sizeV_3, if_neg (by omega)]; decide) (ext_3_neg0 x y z a c w h1  hb)
      · exact ext_bad (by rw [sizeV_3, if_neg (by omega)]; decide) (ext_3_great0 x y z a c w h1  hb0 hb)
      rcases dim3 y with hb | ⟨hb0, hb⟩ | ⟨y0, y1⟩
      · exact ext_bad (by rw [sizeV_3, if_neg (by omega)]; decide) (ext_3_neg1 x y z a c w h1 x0 x1 hb)
      · exact ext_bad (by rw [sizeV_3, if_neg (by omega)]; decide) (ext_3_great1 x y z a c w h1 x0 x1 hb0 hb)
      rcases dim3 z with hb | ⟨hb0, hb⟩ | ⟨z0, z1⟩
      · exact ext_bad (by rw [sizeV_3, if_neg (by omega)]; decide) (ext_3_neg2 x y z a c w h1 x0 x1 y0 y1 hb)
      · exact ext_bad (by rw [sizeV_3, if_neg (by omega)]; decide) (ext_3_great2 x y z a c w h1 x0 x1 y0 y1 hb0 hb)
      by_cases hp : 300 < x * y * z
      · exact ext_bad (by rw [sizeV_3, if_pos (by omega), if_pos hp]; decide) (ext_3_much x y z a c w h1 x0 x1 y0 y1 z0 z1 hp)
      exact ext_good (n := 3) (x := x) (y := y) (z := z) (by rw [sizeV_3, if_pos (by omega), if_neg (by omega)]; exact Int.mul_nonneg (Int.mul_nonneg x0 y0) z0) ⟨rfl, rfl, rfl, rfl⟩ (ext_3_ok x y z a c w h1 x0 x1 y0 y1 z0 z1 (by omega))
/-- Its size. -/
theorem size_ext {l : List Int} {n : Nat} {x y z : Int} (hs : 0 ≤ sizeV l) (he : Ext l n x y z) (w : World) :
    Calls Try.prog 61 #[.agg #[.int .i64 n, .int .i64 x, .int .i64 y, .int .i64 z]] w fun e w' => e = .returned (.int .i64 (sizeV l)) ∧ ∃ o, w' = w.alloc o := by
  obtain ⟨rfl, rfl, rfl, rfl⟩ := he
  obtain ⟨k1, k2, k3, k4⟩ := sizeV_ok hs
  rw [k4]
  rcases len3 k1 with rfl | ⟨x, rfl⟩ | ⟨x, y, rfl⟩ | ⟨x, y, z, rfl⟩
  · exact (size_0_ext w).mono fun e w' h => ⟨h.1, _, h.2⟩
  · simp only [List.all_cons, List.all_nil, Bool.and_true] at k2
    have dx := dimOk_bd k2
    rw [prod1]
    exact (size_1_ext x w dx.1 dx.2).mono fun e w' h => ⟨h.1, _, h.2⟩
  · simp only [List.all_cons, List.all_nil, Bool.and_true, Bool.and_eq_true] at k2
    have dx := dimOk_bd k2.1
    have dy := dimOk_bd k2.2
    rw [prod2]
    exact (size_2_ext x y w dx.1 dx.2 dy.1 dy.2).mono fun e w' h => ⟨h.1, _, h.2⟩
  · simp only [List.all_cons, List.all_nil, Bool.and_true, Bool.and_eq_true] at k2
    have dx := dimOk_bd k2.1
    have dy := dimOk_bd k2.2.1
    have dz := dimOk_bd k2.2.2
    rw [prod3]
    exact (size_3_ext x y z w dx.1 dx.2 dy.1 dy.2 dz.1 dz.2).mono fun e w' h => ⟨h.1, _, h.2⟩
theorem sizeV_neg {l : List Int} (h : ¬ 0 ≤ sizeV l) : sizeV l = -1 := by have := sizeV_bd l; omega
set_option maxRecDepth 20000 in
set_option maxHeartbeats 1000000 in
/-- SizeOf. -/
theorem size_impl {l : List Int} {a : Option Addr} {w : World} (c : Nat) (h1 : Ints w a l) :
    Calls Try.prog 56 #[.slice a l.length c] w fun e w' => e = .returned (.int .i64 (sizeV l)) ∧ Below w.heap.size w w' := by
  have H1 : Hid (Ints w a l) := h1
  clear h1
  by_cases hs : 0 ≤ sizeV l
  · have hs' : decide (0 ≤ sizeV l) = true := by simpa using hs
    have HS : Hid (0 ≤ sizeV l) := hs
    clear hs
    go_enter Try.func56, Try.ntmps56
    go_wp2_with fail
    refine (ext_impl _ H1.out).mono ?_
    rintro e w1 ⟨n, x, y, z, rfl, he, hb⟩
    have HE : Hid (Ext l n x y z) := he HS.out
    have HB : Hid (Below w.heap.size w w1) := hb
    clear he hb
    go_wp2_with fail
    refine (size_ext HS.out HE.out _).mono ?_
    rintro e w2 ⟨rfl, o, hw⟩
    subst w2
    go_wp2
    go_ret
    exact ⟨rfl, bAlloc (bAlloc HB.out _) _⟩
  · have hs' : decide (0 ≤ sizeV l) = false := by simpa using hs
    have HV : Hid (sizeV l = -1) := sizeV_neg hs
    clear hs
    go_enter Try.func56, Try.ntmps56
    go_wp2_with fail
    refine (ext_impl _ H1.out).mono ?_
    rintro e w1 ⟨n, x, y, z, rfl, he, hb⟩
    have HB : Hid (Below w.heap.size w w1) := hb
    clear he hb
    go_wp2
    go_ret
    exact ⟨ret_num HV.out.symm, bAlloc HB.out _⟩
set_option maxRecDepth 20000 in
set_option maxHeartbeats 1000000 in
/-- ShapeOk. -/
theorem ok_impl {l : List Int} {a : Option Addr} {w : World} (c : Nat) (h1 : Ints w a l) :
    Calls Try.prog 22 #[.slice a l.length c] w fun e w' => e = .returned (.bool (decide (0 ≤ sizeV l))) ∧ Below w.heap.size w w' := by
  have H1 : Hid (Ints w a l) := h1
  clear h1
  generalize hq : decide (0 ≤ sizeV l) = q
  have HQ : Hid (decide (0 ≤ sizeV l) = q) := hq
  clear hq
  go_enter Try.func22, Try.ntmps22
  go_wp2_with fail
  refine (ext_impl _ H1.out).mono ?_
  rintro e w1 ⟨n, x, y, z, rfl, he, hb⟩
  have HB : Hid (Below w.heap.size w w1) := hb
  clear he hb
  rw [HQ.out]
  go_wp2
  go_ret
  exact ⟨rfl, bAlloc HB.out _⟩
theorem newInts_nil (B : Nat) (w : World) : NewInts B w (.slice none 0 0) [] := ⟨rfl, .inl ⟨rfl, rfl⟩⟩
end Go.Proofs.Ytdobohobhpailaa
namespace Go.Proofs.Ytdobohobhpailaa
open Go.RowKit
set_option linter.unusedVariables false
set_option linter.unusedSimpArgs false
set_option maxRecDepth 20000 in
set_option maxHeartbeats 1000000 in
theorem vector_spec {l : List Int} {a : Option Addr} {w : World} (c : Nat) (h1 : Ints w a l) (hl : l.length ≤ 1048576) :
    Calls Try.prog 44 #[.slice a l.length c] w fun e w' => ∃ v, e = .returned v ∧ Arr w.heap.size w'.heap.size w' v [(l.length : Int)] l ∧ Below w.heap.size w w' := by
  obtain ⟨v, w1, hrun, hp, hb⟩ := append_new (((h1.alloc (.cells #[.slice none 0 0, .slice none 0 0] 26)).alloc (.cells #[.int .i64 l.length] 3)).alloc (.cells #[] 3)) hl (w.heap.size + 1 + 1) 0 c
  obtain ⟨b, e, rfl, hi⟩ := hp.ints
  have hR : w1.heap[w.heap.size]? = some (.cells #[.slice none 0 0, .slice none 0 0] 26 (0, 0)) := by
    rw [hb.block w.heap.size (by simp; omega), heap_alloc_old _ _ (by simp; omega)]
    exact heap_alloc2_old w _ _
  have hS : w1.heap[w.heap.size + 1]? = some (.cells #[.int .i64 l.length] 3 (0, 0)) := by
    rw [hb.block (w.heap.size + 1) (by simp), heap_alloc_old _ _ (by simp)]
    exact heap_alloc2_new w _ _
  have HB : Hid (Below w.heap.size w w1) := bTrans (bAlloc (bAlloc (bAlloc (Below.refl _ _) _) _) _) hb
  have HA : Hid (Arr (w.heap.size + 1) w1.heap.size w1 (.agg #[.slice (some ⟨w.heap.size + 1, 0, none⟩) 1 1, .slice b l.length e]) [(l.length : Int)] l) := by
    have hz := hb.size
    simp at hz
    have p1 : Piece (w.heap.size + 1) (w.heap.size + 2) w1 (.slice (some ⟨w.heap.size + 1, 0, none⟩) 1 1) [(l.length : Int)] := OwnInts.piece (l := [(l.length : Int)]) hS (Nat.le_refl _) (by omega) 1
    exact ⟨_, _, rfl, p1.mono (Nat.le_refl _) (by omega), hp.mono (by simp <;> omega) (Nat.le_refl _), p1.apart hp (.inl (by simp <;> omega))⟩
  have k0 : w1.cell? ⟨w.heap.size, 0, none⟩ = some (.slice none 0 0) := cell_at hR rfl
  have k1 : w1.cell? ⟨w.heap.size, 1, none⟩ = some (.slice none 0 0) := cell_at hR rfl
  have f0 : w1.frozen? ⟨w.heap.size, 0, none⟩ = false := free_at hR 0
  have f1 : w1.frozen? ⟨w.heap.size, 1, none⟩ = false := free_at hR 1
  have HR : Hid (((w1.setCell ⟨w.heap.size, 0, none⟩ (.slice (some ⟨w.heap.size + 1, 0, none⟩) 1 1)).setCell ⟨w.heap.size, 1, none⟩ (.slice b l.length e)).heap[w.heap.size]? = some (.cells #[.slice (some ⟨w.heap.size + 1, 0, none⟩) 1 1, .slice b l.length e] 26 (0, 0))) := arr_stored hR
  have HRUN : Hid (∀ (ty : TypeId), (Builtin.append_ #[24, 24] ty #[.slice (some ⟨w.heap.size + 1 + 1, 0, none⟩) 0 0, .slice a l.length c]).run Try.prog (((w.alloc (.cells #[.slice none 0 0, .slice none 0 0] 26)).alloc (.cells #[.int .i64 l.length] 3)).alloc (.cells #[] 3)) = .ok (.slice b l.length e) w1) := hrun
  clear hR hS hb hp hi h1 hrun
  go_enter Try.func44, Try.ntmps44
  go_wp2_with (at_builtin; refine wpList_append_run rfl _ _ 24 24 rfl _ _ _ rfl rfl HRUN.out ?_)
  refine bodyPost_ret (v := .agg #[.slice (some ⟨w.heap.size + 1, 0, none⟩) 1 1, .slice b l.length e]) (results_arr rfl _ _ w.heap.size _ _ rfl HR.out) rfl ?_
  refine ⟨_, rfl, ?_, below_setCell (below_setCell HB.out (Nat.le_refl _) _ _) (Nat.le_refl _) _ _⟩
  exact ((HA.out.setCell (Nat.lt_succ_self _) _ _).setCell (Nat.lt_succ_self _) _ _).mono (by omega) (by simp [size_setCell])
/-- What VectorOf answers. -/
def vecOk (l : List Int) : Bool := arrOk [(l.length : Int)] l
end Go.Proofs.Ytdobohobhpailaa
namespace Go.Proofs.Ytdobohobhpailaa
open Go.RowKit
set_option linter.unusedVariables false
set_option linter.unusedSimpArgs false
set_option maxRecDepth 20000 in
set_option maxHeartbeats 4000000 in
/-- ArrayOk. -/
theorem arrOk_impl {s d : List Int} {w : World} {v : Value} (h : ArrI w v s d) (hd : d.length ≤ 1048576) :
    Calls Try.prog 41 #[v] w fun e w' => e = .returned (.bool (arrOk s d)) ∧ Below w.heap.size w w' := by
  obtain ⟨a, c, b, e, rfl, h1, h2, _, _⟩ := h
  have H1 : Hid (Ints w a s) := h1
  have H2 : Hid (Ints w b d) := h2
  have HD : Hid (d.length ≤ 1048576) := hd
  clear h1 h2 hd
  have HSZ : Hid (∀ W, Ints W a s → Calls Try.prog 56 #[.slice a s.length c] W fun e w' => e = .returned (.int .i64 (sizeV s)) ∧ Below W.heap.size W w') := fun W h => size_impl c h
  have HAR : Hid (∀ W, Ints W b d → Calls Try.prog 60 #[.slice b d.length e] W fun e w' => e = .returned (.bool (d.all ok)) ∧ w' = W) := fun W h => allRight_impl e h HD.out
  by_cases hs : sizeV s = d.length
  · have HV : Hid (arrOk s d = d.all ok) := by show _ = _; simp [arrOk, hs]
    rw [hs] at HSZ
    clear hs
    generalize d.all ok = q at *
    go_enter Try.func41, Try.ntmps41
    go_wp2
    generalize hW : w.alloc (.cells #[.slice a s.length c, .slice b d.length e] 26) = W
    have HB : Hid (Below w.heap.size w W) := by rw [← hW]; exact bAlloc (Below.refl _ _) _
    have X : Hid (Box W w.heap.size (.slice a s.length c) (.slice b d.length e) 26) := by rw [← hW]; exact box_new w _ _ _
    have x0 := X.out.c0
    have x1 := X.out.c1
    clear hW
    go_region_held3 (fun w' => w'.cell? ⟨w.heap.size, 0, none⟩ = some (.slice a s.length c) ∧ w'.cell? ⟨w.heap.size, 1, none⟩ = some (.slice b d.length e))
      (first | exact ⟨z0, z1⟩ | exact ⟨y0, y1⟩ | exact ⟨x0, x1⟩)
      (first
        | (go_at_call 56; refine (HSZ.out _ (H1.out.keep (bTrans HB.out ((Below.refl W.heap.size W).drew)))).mono ?_; rintro r w1 ⟨rfl, hb⟩; have HB1 : Hid (Below W.heap.size W w1) := bTrans ((Below.refl W.heap.size W).drew) hb; have y0 := (X.out.keep HB1.out).c0; have y1 := (X.out.keep HB1.out).c1; clear hb)
        | (go_at_call 60; refine (HAR.out _ (H2.out.keep (bTrans HB.out HB1.out))).mono ?_; rintro r w2 ⟨rfl, hw⟩; subst w2))
    go_wp2
    go_ret
    exact ⟨by rw [HV.out]; rfl, bTrans HB.out HB1.out⟩
  · have HV : Hid (arrOk s d = false) := by show _ = _; simp [arrOk, hs]
    have hne : ((d.length : Int) == sizeV s) = false := by simp; exact fun e => hs e.symm
    generalize sizeV s = z at *
    clear hs
    go_enter Try.func41, Try.ntmps41
    go_wp2
    generalize hW : w.alloc (.cells #[.slice a s.length c, .slice b d.length e] 26) = W
    have HB : Hid (Below w.heap.size w W) := by rw [← hW]; exact bAlloc (Below.refl _ _) _
    have X : Hid (Box W w.heap.size (.slice a s.length c) (.slice b d.length e) 26) := by rw [← hW]; exact box_new w _ _ _
    have x0 := X.out.c0
    have x1 := X.out.c1
    clear hW
    first
      | go_region_with (go_at_call 56; refine (HSZ.out _ (H1.out.keep (bTrans HB.out ((Below.refl W.heap.size W).drew)))).mono ?_; rintro r w1 ⟨rfl, hb⟩; have HB1 : Hid (Below W.heap.size W w1) := bTrans ((Below.refl W.heap.size W).drew) hb; have y0 := (X.out.keep HB1.out).c0; have y1 := (X.out.keep HB1.out).c1; clear hb)
      | fail "no"
    all_goals
      go_wp2
      go_ret
      exact ⟨by rw [HV.out]; rfl, bTrans HB.out HB1.out⟩
theorem arrOk_one (x : Int) : arrOk [] [x] = ok x := by simp [arrOk, sizeV_0']
end Go.Proofs.Ytdobohobhpailaa
namespace Go.Proofs.Ytdobohobhpailaa
open Go.RowKit Go.Shelf
set_option linter.unusedVariables false
set_option linter.unusedSimpArgs false
attribute [local go_sem] Oper.semAt_some
theorem wrapJ {a : Int} (h0 : 0 ≤ a) (h1 : a ≤ 1099511627776) : IntKind.i64.wrap a = a := by rw [IntKind.wrap_i64]; omega
/-- The first k numbers. -/
def upto (cnt k : Nat) : List (Fin cnt) := (List.finRange cnt).take k
theorem upto_succ {cnt k : Nat} (h : k < cnt) : upto cnt (k + 1) = upto cnt k ++ [⟨k, h⟩] := by
  unfold upto
  rw [List.take_succ_eq_append_getElem (by simpa using h)]
  simp
theorem upto_length {cnt k : Nat} (h : k ≤ cnt) : (upto cnt k).length = k := by simp [upto, h]
theorem upto_all (cnt : Nat) : upto cnt cnt = List.finRange cnt := by unfold upto; exact List.take_of_length_le (by simp)
/-- What a round keeps: the box of the array that is cut. -/
def KeepsBox (q : Nat) (W W' : World) : Prop := W'.heap[q]? = W.heap[q]?
theorem keepsBox_t {q : Nat} {A B C : World} (h : KeepsBox q A B) (k : KeepsBox q B C) : KeepsBox q A C := Eq.trans k h
theorem keepsBox_b {q : Nat} {w : World} (hq : q < w.heap.size) (W : World) (l : Nat) (o o' : Obj) (hl : w.heap.size ≤ l) (_ : W.heap[l]? = some o) (_ : o.isCells = false) (_ : o.isWalk = false) : KeepsBox q W (W.putObj l o') :=
  World.putObj_heap_other (by omega)
set_option maxRecDepth 100000 in
set_option maxHeartbeats 4000000 in
theorem cut_in (n l q cnt N r b1 o1 c dl e ct : Nat) (tl b : Option Addr) (ad : Nat → Option Addr) (cd : Nat → Nat) (hn : 1 ≤ n) (hc : cnt ≤ 300) (hN : N ≤ 300) (hr : r ≤ 3)
    (hq : 0 < cnt → (dl : Int) / (cnt : Int) = N)
    (hs1 : ∀ W, (Instr.slice 24 (.slice (some ⟨b1, o1, none⟩) (r + 1) c) (some (.int .i64 1)) (some (.int .i64 ((r : Int) + 1))) (some (.int .i64 ((r : Int) + 1)))).run Try.prog W = .ok (.slice tl r ct) W)
    (hs2 : ∀ (k M R : Nat) W, k < cnt → k * N = M → (k + 1) * N = R → (Instr.slice 24 (.slice b dl e) (some (.int .i64 (M : Int))) (some (.int .i64 (R : Int))) (some (.int .i64 (R : Int)))).run Try.prog W = .ok (.slice (ad k) N (cd k)) W)
    (J Jx : List (Fin cnt) → World → Prop)
    (hY : ∀ pre x W, J pre W → pre.length < cnt → YieldAt Fence.wide (n - 1) Try.prog l #[.agg #[.slice tl r ct, .slice (ad x.1) N (cd x.1)]] W fun e W' =>
      (e = .returned (.bool true) ∧ J (pre ++ [x]) W' ∧ KeepsBox q W W') ∨ (e = .returned (.bool false) ∧ Jx (pre ++ [x]) W'))
    (W : World) (hJ : AbidesFrom W.heap.size J) (hB : Box W q (.slice (some ⟨b1, o1, none⟩) (r + 1) c) (.slice b dl e) 26) (h0 : W.cell? ⟨b1, o1, none⟩ = some (.int .i64 (cnt : Int))) (hj : J [] W) :
    CallsIn Fence.wide n Try.prog 63 #[.func (.yield l) #[] #[], .pointer (some ⟨q, 0, none⟩)] W fun e W' => (∃ v, e = .returned v) ∧
      ((∃ ys, ys = List.finRange cnt ∧ J ys W') ∨ (∃ pre, True ∧ Jx pre W')) := by
  have HB : Hid (Box W q (.slice (some ⟨b1, o1, none⟩) (r + 1) c) (.slice b dl e) 26) := hB
  have x0 := hB.c0
  have x1 := hB.c1
  clear hB
  refine callsIn_of_wp Try.func63 rfl trivial ?_ rfl
  simp only [Try.ntmps63, List.size_toArray, List.length_cons, List.length_nil, Nat.reduceAdd, Nat.reduceSub, Array.replicate_succ, Array.replicate_zero, List.push_toArray, List.append_toArray, List.nil_append, List.cons_append]
  gi_wp2
  gi_region
  gi_wp2
  have HQ : Hid (0 < cnt → (dl : Int) / (cnt : Int) = N) := hq
  have HS2 : Hid (∀ (k M R : Nat) W, k < cnt → k * N = M → (k + 1) * N = R → (Instr.slice 24 (.slice b dl e) (some (.int .i64 (M : Int))) (some (.int .i64 (R : Int))) (some (.int .i64 (R : Int)))).run Try.prog W = .ok (.slice (ad k) N (cd k)) W) := hs2
  have HJ : Hid (AbidesFrom W.heap.size J) := hJ
  clear hq hs2 x0 x1 hJ
  gi_loopw [18] (fun i wr => ∃ k : Nat, k ≤ cnt ∧ i = .int .i64 k ∧ J (upto cnt k) wr ∧ KeepsBox q W wr)
    (fun i _ => cnt - (intOf i).toNat)
  case atStart => exact ⟨0, by omega, rfl, HJ.out _ _ _ none hj ⟨rfl, rfl, rfl, Nat.le_refl _, fun _ _ _ => rfl⟩ (fun r e => by cases e), rfl⟩
  case round =>
    obtain ⟨k, hk, rfl, hJs, hnx⟩ := hrel
    have X : Hid (Box wr q (.slice (some ⟨b1, o1, none⟩) (r + 1) c) (.slice b dl e) 26) := by
      have := HB.out; unfold Box at this; show wr.heap[q]? = _; rw [show wr.heap[q]? = W.heap[q]? from hnx]; exact this
    by_cases hlt : (k : Int) < (cnt : Int)
    · obtain ⟨M, hM⟩ : ∃ M : Nat, k * N = M := ⟨_, rfl⟩
      obtain ⟨R, hR⟩ : ∃ R : Nat, (k + 1) * N = R := ⟨_, rfl⟩
      have hs2 := fun W => HS2.out k M R W (by omega) hM hR
      have hR1 : R ≤ 90000 := by
        have h1 : (k + 1) * N ≤ 300 * 300 := Nat.mul_le_mul (by omega) hN
        omega
      have hM1 : M ≤ 90000 := by
        have h1 : k * N ≤ 300 * 300 := Nat.mul_le_mul (by omega) hN
        omega
      have eM : (k : Int) * (N : Int) = (M : Int) := by rw [← hM]; simp
      have eR : ((k : Int) + 1) * (N : Int) = (R : Int) := by rw [← hR]; simp
      have hwM : IntKind.i64.wrap (M : Int) = (M : Int) := wrapJ (by omega) (by omega)
      have hwR : IntKind.i64.wrap (R : Int) = (R : Int) := wrapJ (by omega) (by omega)
      have hdv : (dl : Int) / (cnt : Int) = N := HQ.out (by omega)
      have hpos : (0 : Int) < (cnt : Int) := by omega
      have HL : Hid (k < cnt) := by show _ < _; omega
      have x0 := X.out.c0
      have x1 := X.out.c1
      have HJS : Hid (J (upto cnt k) wr) := hJs
      have HNX : Hid (KeepsBox q W wr) := hnx
      clear hM hR hJs hnx
      have d0 : ∀ O : Obj, (wr.alloc O).drew.cell? ⟨q, 0, none⟩ = some (.slice (some ⟨b1, o1, none⟩) (r + 1) c) := fun O => (X.out.keep (bAlloc (Below.refl _ _) O)).c0
      have d1 : ∀ O : Obj, (wr.alloc O).drew.cell? ⟨q, 1, none⟩ = some (.slice b dl e) := fun O => (X.out.keep (bAlloc (Below.refl _ _) O)).c1
      gi_wp2
      gi_region
      generalize hW3 : (wr.alloc (.cells #[.slice tl r ct, .slice (ad k) N (cd k)] 26)).drew = W3
      have hJ3 : J (upto cnt k) W3 := by
        rw [← hW3]
        exact HJ.out _ _ _ none HJS.out ⟨rfl, rfl, rfl, by show wr.heap.size ≤ (wr.alloc _).heap.size; simp, fun j hj _ => Below.heap_alloc _ _ _ hj⟩ (fun r e => by cases e)
      have y0 : W3.cell? ⟨wr.heap.size, 0, none⟩ = some (.slice tl r ct) := by rw [← hW3]; exact cell_newA _ _ _ rfl
      have y1 : W3.cell? ⟨wr.heap.size, 1, none⟩ = some (.slice (ad k) N (cd k)) := by rw [← hW3]; exact cell_newA _ _ _ rfl
      have HK3 : Hid (KeepsBox q W W3) := keepsBox_t HNX.out (by rw [← hW3]; exact Below.heap_alloc _ _ _ X.out.lt)
      clear hW3 d0 d1
      obtain ⟨fn, tmps, assign, body, hy, hRd⟩ := hY (upto cnt k) ⟨k, HL.out⟩ W3 hJ3 (by rw [upto_length hk]; exact HL.out)
      dsimp only at hy
      clear hY
      gi_wp2
      refine hRd.mono ?_
      rintro e' W4 (⟨rfl, hJ4, hk4⟩ | ⟨rfl, hJx4⟩)
      · have HJ4 : Hid (J (upto cnt (k + 1)) W4) := by show J _ _; rw [upto_succ HL.out]; exact hJ4
        have HK4 : Hid (KeepsBox q W W4) := keepsBox_t HK3.out hk4
        clear hJ4 hk4
        gi_wp2
        go_roundw
        case rel => exact ⟨k + 1, by have := HL.out; omega, by go_num, HJ4.out, HK4.out⟩
        case measure => simp [intOf]; omega
      · gi_wp2
        refine bodyPost_ret (results_none rfl _ _ _) rfl ?_
        exact ⟨⟨_, rfl⟩, .inr ⟨_, trivial, hJx4⟩⟩
    · obtain rfl : k = cnt := by omega
      rw [upto_all] at hJs
      gi_wp2
      go_end0
      first
        | exact ⟨⟨_, rfl⟩, .inl ⟨_, rfl, hJs⟩⟩
        | exact ⟨⟨_, rfl⟩, .inl hJs⟩
/-- cutRows: the array is boxed; the function value captures the box. -/
theorem cutRows_in (n : Nat) (x y : Value) (w : World) (hx : x.oneCell' = true) (hy : y.oneCell' = true) :
    CallsIn Fence.wide n Try.prog 48 #[.agg #[x, y]] w fun e w' => e = .returned (.func (.func 63) #[] #[.pointer (some ⟨w.heap.size, 0, none⟩)]) ∧ w' = w.alloc (.cells #[x, y] 26) := by
  refine callsIn_of_wp Try.func48 rfl trivial ?_ rfl
  simp only [Try.ntmps48, List.size_toArray, List.length_cons, List.length_nil, Nat.reduceAdd, Nat.reduceSub, Array.replicate_succ, Array.replicate_zero, List.push_toArray, List.append_toArray, List.nil_append, List.cons_append]
  gi_wp2
  go_ret
  exact ⟨rfl, rfl⟩
/-- The value that cutRows hands back tells the rows in order. -/
theorem cut_stops (n q cnt N r b1 o1 c dl e ct : Nat) (tl b : Option Addr) (ad : Nat → Option Addr) (cd : Nat → Nat) (hn : 1 ≤ n) (hc : cnt ≤ 300) (hN : N ≤ 300) (hr : r ≤ 3)
    (hq : 0 < cnt → (dl : Int) / (cnt : Int) = N)
    (hs1 : ∀ W, (Instr.slice 24 (.slice (some ⟨b1, o1, none⟩) (r + 1) c) (some (.int .i64 1)) (some (.int .i64 ((r : Int) + 1))) (some (.int .i64 ((r : Int) + 1)))).run Try.prog W = .ok (.slice tl r ct) W)
    (hs2 : ∀ (k M R : Nat) W, k < cnt → k * N = M → (k + 1) * N = R → (Instr.slice 24 (.slice b dl e) (some (.int .i64 (M : Int))) (some (.int .i64 (R : Int))) (some (.int .i64 (R : Int)))).run Try.prog W = .ok (.slice (ad k) N (cd k)) W)
    (w : World) (hb1 : b1 < w.heap.size) (hB : Box w q (.slice (some ⟨b1, o1, none⟩) (r + 1) c) (.slice b dl e) 26) (h0 : w.cell? ⟨b1, o1, none⟩ = some (.int .i64 (cnt : Int))) :
    SeqStopsK Fence.wide n Try.prog 63 #[.pointer (some ⟨q, 0, none⟩)] (fun x : Fin cnt => #[.agg #[.slice tl r ct, .slice (ad x.1) N (cd x.1)]]) (KeepsBox q) (fun ys => ys = List.finRange cnt) (fun _ => True) cnt w := fun l J Jx W hW hJ _ hY hj =>
  cut_in n l q cnt N r b1 o1 c dl e ct tl b ad cd hn hc hN hr hq hs1 hs2 J Jx hY W hJ (hB.keep hW) ((hW.cell (p := ⟨b1, o1, none⟩) hb1).trans h0) hj
end Go.Proofs.Ytdobohobhpailaa
namespace Go.Proofs.Ytdobohobhpailaa
open Go.RowKit Go.Shelf
set_option linter.unusedVariables false
set_option linter.unusedSimpArgs false
attribute [local go_sem] Oper.semAt_some
/-- An append to a row of one's own, in a round: as 'step_append_lies' says it. -/
theorem stepIn_append {l n' : Nat} {P : Program} {w : World} {ops : Array Oper} {o : Oper} {a : Act} {K : Act → World → Prop} {Q : Exit → Act → World → Prop} {E : Prop} (hgd : o.guard = none) (s x : Operand) (t : TypeId)
    (ho : o.op = .call { callee := .builtin .append, args := #[s, x], argTypes := #[t, t] })
    (base : Nat) (e : TypeId) (i : TypeInfo) (z : Value) (size bytes : Nat) (ht : P.underlying t = some (.slice e)) (hi : P.info? e = some i) (hz : i.zero = some z)
    (hsize : i.size = size) (hby : i.bytes = bytes) (hzs : z.cells.size = size) (hsz : 0 < size)
    (v : Value) (n : Nat) (xs : List Value) (hs : a.eval s = v) (hown : w.ownsRow base e size v n xs)
    (ad : Addr) (m c : Nat) (news : List Value) (hx : a.eval x = .slice (some ad) m c) (hl : news.length = m * size) (hnews : ∀ j u, news[j]? = some u → w.cell? (ad.add j) = some u) (h1 : ∀ u ∈ news, u.oneCell' = true)
    (hm : 0 < m) (h63 : n + m ≤ maxLen) (hbytes : (n + m) * bytes ≤ 140737488355328) (hbase : base ≤ w.heap.size) (H : Nat) (hH : w.heap.size = H)
    (h : ∀ g cap w', w'.ownsRow base e size (.slice (some ⟨g, 0, none⟩) (n + m) cap) (n + m) (xs ++ news) → w.grownBy w' v.ownBlock → (v.ownBlock = some g ∨ g = H) → g < w'.heap.size → K (a.put o.dst (.slice (some ⟨g, 0, none⟩) (n + m) cap)) w') :
    if Region.wanted o (yielded ops a.tmps) = true then Oper.wpIn (Fence.wide.inRound l) n' P o a w K Q else E := by
  have hw : Region.wanted o (yielded ops a.tmps) = true := by simp [Region.wanted, hgd]
  rw [if_pos hw]
  obtain ⟨g, cap, w', hr, h2, h3, h4, h5⟩ := run_append_lies (P := P) w t o.type base e i z size bytes ht hi hz hsize hby hzs hsz v n xs hown ad m c news hl hnews h1 hm h63 hbytes hbase H hH
  refine ⟨fun _ _ => trivial, ?_⟩
  rw [show (Fence.wide.inRound l).round = some l from rfl, Oper.semAt_some l _ _ (fun c e => by rw [ho] at e; cases e)]
  unfold execOp
  simp only [ho, resolve, invoke, builtin, Sem.run_bind, Sem.run_pure, Result.andThen_ok, List.map_toArray, List.map_cons, List.map_nil, hs, hx, hr]
  exact h g cap w' h2 h3 h4 h5
theorem make_arrs (n : Nat) (hn : n ≤ 300) (w : World) :
    (Instr.makeSlice 61 (.int .i64 0) (.int .i64 (n : Int))).run Try.prog w = .ok (.slice (some ⟨w.heap.size, 0, none⟩) 0 n) (w.alloc (.cells (madeCells #[.slice none 0 0, .slice none 0 0] (n * 2)) 26)) := by
  have hi := info_arr
  cases hq : Try.prog.info? 26 with
  | none => rw [hq] at hi; cases hi
  | some i =>
    rw [hq] at hi
    simp at hi
    obtain ⟨z1, z2, z3⟩ := hi
    have := run_make (P := Try.prog) w 61 26 i _ Try.underlying61 hq z1 .i64 .i64 0 n (by omega) (by omega) (by rw [z3]; omega) (by omega)
    rw [z2, Int.toNat_natCast] at this
    exact this
/-- A block that holds no number holds no piece. -/
theorem Piece.notRow {B C g : Nat} {w : World} {u : Value} {m : List Int} (h : Piece B C w u m) (hg : ∀ cur t fr, w.heap[g]? = Option.some (.cells cur t fr) → ∀ (k : Nat) (z : Int), cur[k]? ≠ Option.some (Value.int .i64 z)) : NotAt g u := by
  obtain ⟨a, c, rfl, _, h⟩ := h
  intro off n c' e
  cases e
  rcases h with rfl | ⟨g', off, cur, t, e, _, _, hh, hc⟩
  · rfl
  · cases e
    apply Classical.byContradiction
    intro h0
    exact hg cur t _ hh off (m.getD 0 0) (hc 0 (Nat.pos_of_ne_zero h0))
theorem RI.grown {B : Nat} {w0 W W' : World} {v : Value} {k : Nat} {xs : List Value} {F : List (List Int)} {row : Option Nat} (h : RI B w0 W v k xs F) (hg : W.grownBy W' row) (hB : ∀ r, row = some r → B ≤ r) (ho : ∀ r, row = some r → v.ownBlock ≠ some r) (hp : ∀ r, row = some r → ∀ j, j < 2 * k → NotAt r (xs.getD j undef)) : RI B w0 W' v k xs F := by
  have hz := hg.size
  have hs := h.size
  refine ⟨h.own.kept hg ?_, fun j hj => ((h.piece j hj).grown hg (fun g e => hp g e j hj)).mono (Nat.le_refl _) hz, h.apart, h.far, ?_, by omega⟩
  · rcases h.own.2 with ⟨rfl, _⟩ | ⟨g, cap, cur, rfl, _⟩
    · exact .inl rfl
    · exact .inr (fun e => ho g (by rw [← e]; rfl) rfl)
  · refine ⟨hg.os.trans h.below.os, hg.tape.trans h.below.tape, hg.output.trans h.below.output, Nat.le_trans h.below.size hz, fun q hq => ?_⟩
    rw [hg.block q (by omega) (fun e => by have := hB q e.symm; omega)]
    exact h.below.block q hq
theorem RI.congr {B : Nat} {w0 W : World} {v : Value} {k : Nat} {xs : List Value} {F F' : List (List Int)} (h : RI B w0 W v k xs F) (he : ∀ j, j < 2 * k → F.getD j [] = F'.getD j []) : RI B w0 W v k xs F' :=
  ⟨h.own, fun j hj => by rw [← he j hj]; exact h.piece j hj, h.apart, h.far, h.below, h.size⟩
theorem keepsOthers_below {W W' : World} (h : Below W.heap.size W W') : KeepsOthers W W' := ⟨h.size, fun k o hk _ => by rw [h.block k (Array.getElem?_eq_some_iff.1 hk).1]; exact hk⟩
theorem flat_lenR {cnt : Nat} (f g : Fin cnt → List Int) (pre : List (Fin cnt)) : (pre.flatMap (fun k => [f k, g k])).length = 2 * pre.length := by
  induction pre with
  | nil => rfl
  | cons a l ih => simp [List.flatMap_cons] at ih ⊢; omega
/-- Behind the append, and behind the store of the longer list into its box. -/
theorem round_end {cnt B L q g cap g4 cap4 : Nat} {w0 W w3 w4 : World} {xs : List Value} {pre : List (Fin cnt)} {x : Fin cnt} {f h : Fin cnt → List Int} {u v : Value}
    (hri : RI B w0 W (.slice (some ⟨g, 0, none⟩) pre.length cap) pre.length xs (pre.flatMap (fun k => [f k, h k]))) (hbx : Boxed W L 61 (.slice (some ⟨g, 0, none⟩) pre.length cap))
    (hq : q < W.heap.size) (hgq : g ≠ q) (hLq : L ≠ q) (hBL : B ≤ L) (hb : Below W.heap.size W w3) (ha : Arr W.heap.size w3.heap.size w3 (.agg #[u, v]) (f x) (h x))
    (hown : w4.ownsRow B 26 2 (.slice (some ⟨g4, 0, none⟩) (pre.length + 1) cap4) (pre.length + 1) (xs ++ [u, v]))
    (hgrow : (w3.alloc (.cells #[u, v] 26)).grownBy w4 (Value.slice (some ⟨g, 0, none⟩) pre.length cap).ownBlock)
    (hat : (Value.slice (some ⟨g, 0, none⟩) pre.length cap).ownBlock = some g4 ∨ g4 = w3.heap.size + 1) :
    Boxed w4 L 61 (.slice (some ⟨g, 0, none⟩) pre.length cap) ∧ g4 ≠ q ∧
      RI B w0 (w4.setCell ⟨L, 0, none⟩ (.slice (some ⟨g4, 0, none⟩) (pre.length + 1) cap4)) (.slice (some ⟨g4, 0, none⟩) (pre.length + 1) cap4) (pre.length + 1) (xs ++ [u, v]) ((pre ++ [x]).flatMap (fun k => [f k, h k])) ∧
      Boxed (w4.setCell ⟨L, 0, none⟩ (.slice (some ⟨g4, 0, none⟩) (pre.length + 1) cap4)) L 61 (.slice (some ⟨g4, 0, none⟩) (pre.length + 1) cap4) ∧
      KeepsOthers W (w4.setCell ⟨L, 0, none⟩ (.slice (some ⟨g4, 0, none⟩) (pre.length + 1) cap4)) ∧ KeepsBox q W (w4.setCell ⟨L, 0, none⟩ (.slice (some ⟨g4, 0, none⟩) (pre.length + 1) cap4)) := by
  have eo : (Value.slice (some ⟨g, 0, none⟩) pre.length cap).ownBlock = some g := rfl
  rw [eo] at hgrow hat
  have hl := flat_lenR f h pre
  have hb' : Below W.heap.size W (w3.alloc (.cells #[u, v] 26)) := bAlloc hb _
  have eF : (pre ++ [x]).flatMap (fun k => [f k, h k]) = pre.flatMap (fun k => [f k, h k]) ++ [f x, h x] := by simp [List.flatMap_append]
  have hne : some L ≠ some g := hbx.not_row (by decide) hri.own
  have hne4 : L ≠ g4 := by
    rcases hat with e | e
    · cases e; intro e; exact hne (by rw [e])
    · have := hbx.lt; have := hb.size; omega
  have hbx4 : Boxed w4 L 61 (.slice (some ⟨g, 0, none⟩) pre.length cap) := by
    have : (w3.alloc (.cells #[u, v] 26)).heap[L]? = some (.cells #[.slice (some ⟨g, 0, none⟩) pre.length cap] 61 (0, 0)) := by rw [hb'.block L hbx.lt]; exact hbx
    unfold Boxed
    rw [hgrow.block L (lt_of_heapA this) hne]
    exact this
  obtain ⟨x', y', e', px, py, hap⟩ := ha
  obtain ⟨rfl, rfl⟩ : u = x' ∧ v = y' := by cases e'; exact ⟨rfl, rfl⟩
  have hsz : w3.heap.size ≤ (w3.alloc (.cells #[u, v] 26)).heap.size := by simp
  have R4 : RI B w0 w4 (.slice (some ⟨g4, 0, none⟩) (pre.length + 1) cap4) (pre.length + 1) (xs ++ [u, v]) ((pre ++ [x]).flatMap (fun k => [f k, h k])) := by
    refine (hri.congr (F' := (pre ++ [x]).flatMap (fun k => [f k, h k])) (fun j hj => ?_)).step hb' (x := u) (y := v) ?_ ?_ hap hown (by rw [eo]; exact hgrow) (by rw [eo]; rcases hat with e | e; exact .inl e; exact .inr (by simpa using e))
    · rw [eF, getD_app, if_pos (by omega)]
    · rw [eF, getD_app, if_neg (by omega), hl, Nat.sub_self]
      exact (px.keep (bAlloc (Below.refl _ _) _)).mono (Nat.le_refl _) hsz
    · rw [eF, getD_app, if_neg (by omega), hl, show 2 * pre.length + 1 - 2 * pre.length = 1 by omega]
      exact (py.keep (bAlloc (Below.refl _ _) _)).mono (Nat.le_refl _) hsz
  have hqq : w4.heap[q]? = W.heap[q]? := by
    rw [hgrow.block q (by have := hb'.size; omega) (fun e => hgq (by cases e; rfl)), hb'.block q hq]
  refine ⟨hbx4, ?_, R4.grown (grownBy_setCell' w4 L _) (fun r e => by cases e; exact hBL) (fun r e e2 => ?_) (fun r e j hj => ?_), hbx4.set _, ?_, ?_⟩
  · rcases hat with e | e
    · cases e; exact hgq
    · have := hb.size; omega
  · cases e; cases e2; exact hne4 rfl
  · cases e
    refine (R4.piece j hj).notRow (fun cur t fr hh k z hk => ?_)
    rw [show w4.heap[L]? = _ from hbx4] at hh
    cases hh
    cases k <;> simp at hk
  · refine ((keepsOthers_below hb').trans (KeepsOthers.of_grownBy hgrow ?_)).trans (KeepsOthers.setCell _ _ _)
    intro j o e hj
    cases e
    rcases hri.own.2 with ⟨h0, _⟩ | ⟨g', cap', cur, h0, _, hh, _⟩
    · cases h0
    · cases h0
      rw [hb'.block g (lt_of_heapA hh), hh] at hj
      cases hj
      rfl
  · exact (Below.heap_setCell _ _ _ _ (by show q ≠ L; omega)).trans hqq
end Go.Proofs.Ytdobohobhpailaa
namespace Go.Proofs.Ytdobohobhpailaa
open Go.RowKit
set_option linter.unusedVariables false
set_option linter.unusedSimpArgs false
theorem finRange_val (n : Nat) : (List.finRange n).map (fun k => k.1) = List.range n := by
  apply List.ext_getElem
  · simp
  · intro i h1 h2
    simp
theorem finRange_flat (n : Nat) (f : Nat → List (List Int)) : (List.finRange n).flatMap (fun k => f k.1) = (List.range n).flatMap f := by
  rw [← finRange_val, List.flatMap_map]
theorem slice_tail3 (W : World) (b o n c : Nat) (hc : n + 1 ≤ c) : (Instr.slice 24 (.slice (some ⟨b, o, none⟩) (n + 1) c) (some (.int .i64 1)) (some (.int .i64 ((n : Int) + 1))) (some (.int .i64 ((n : Int) + 1)))).run Try.prog W = .ok (.slice (if n = 0 then some ⟨b, o, none⟩ else some ⟨b, o + 1, none⟩) n n) W := by
  have hs : (sizeOf 3).run Try.prog W = .ok 1 W := by kernel_rfl
  have he : Try.prog.elem 24 = 3 := by kernel_rfl
  rw [run_slice_lhm (P := Try.prog) (w := W) 24 (some ⟨b, o, none⟩) (n + 1) c (by rw [he]; exact Try.underlying24) .i64 .i64 .i64 1 ((n : Int) + 1) ((n : Int) + 1) (by decide) (by omega) (by omega) (by omega), he, hs]
  have e1 : ((n : Int) + 1).toNat = n + 1 := by omega
  by_cases h0 : n = 0
  · subst h0; simp [Result.andThen, sliced, Addr.add]
  · simp [Result.andThen, sliced, Addr.add, e1, h0]
theorem slice_cut3 (W : World) (b : Option Addr) (n e M R N : Nat) (h : M + N = R) (hR : R ≤ e) : (Instr.slice 24 (.slice b n e) (some (.int .i64 (M : Int))) (some (.int .i64 (R : Int))) (some (.int .i64 (R : Int)))).run Try.prog W = .ok (.slice (if N = 0 then b else b.map (·.add M)) N N) W := by
  have hs : (sizeOf 3).run Try.prog W = .ok 1 W := by kernel_rfl
  have he : Try.prog.elem 24 = 3 := by kernel_rfl
  rw [run_slice_lhm (P := Try.prog) (w := W) 24 b n e (by rw [he]; exact Try.underlying24) .i64 .i64 .i64 (M : Int) (R : Int) (R : Int) (by omega) (by omega) (by omega) (by omega), he, hs]
  have e2 : R - M = N := by omega
  by_cases h0 : N = 0
  · have e3 : R = M := by omega
    simp [Result.andThen, sliced, h0, e3]
  · have e3 : ¬ R = M := by omega
    simp [Result.andThen, sliced, h0, e3, e2]
end Go.Proofs.Ytdobohobhpailaa
namespace Go.Proofs.Ytdobohobhpailaa
open Go.RowKit
set_option linter.unusedVariables false
set_option linter.unusedSimpArgs false
theorem ints_news {w : World} {b off : Nat} {l : List Int} (h : ∀ k, k < l.length → w.cell? ⟨b, off + k, none⟩ = some (.int .i64 (l.getD k 0))) : ∀ (j : Nat) (v : Value), (l.map (Value.int .i64))[j]? = some v → w.cell? ((⟨b, off, none⟩ : Addr).add j) = some v := by
  intro j v hv
  rw [List.getElem?_map] at hv
  cases hx : l[j]? with
  | none => rw [hx] at hv; cases hv
  | some x =>
    rw [hx] at hv
    obtain ⟨hj, rfl⟩ := List.getElem?_eq_some_iff.1 hx
    have e : (⟨b, off, none⟩ : Addr).add j = ⟨b, off + j, none⟩ := by unfold Addr.add; split <;> simp_all
    rw [e, h j hj]
    simpa [hj] using hv
theorem grown_below {B : Nat} {w w' : World} {row : Option Nat} (hg : w.grownBy w' row) (hr : ∀ k, row = some k → B ≤ k) (hB : B ≤ w.heap.size) : Below B w w' :=
  ⟨hg.os, hg.tape, hg.output, hg.size, fun k hk => hg.block k (by omega) (fun e => by have := hr k e.symm; omega)⟩
/-- Growing by a list. -/
theorem growL {B : Nat} {w : World} {v : Value} {l m : List Int} {a : Option Addr} (h : NewInts B w v l) (hm : Ints w a m) (hB : B ≤ w.heap.size) (hl : l.length + m.length ≤ 1048576) (c : Nat) :
    ∃ a' c' w', (Builtin.append_ #[24, 24] 24 #[v, .slice a m.length c]).run Try.prog w = .ok (.slice a' (l ++ m).length c') w' ∧ NewInts B w' (.slice a' (l ++ m).length c') (l ++ m) ∧ Below B w w' := by
  obtain ⟨i, hq, z1, z2, z3⟩ : ∃ i, Try.prog.info? 3 = some i ∧ i.zero = some (.int .i64 0) ∧ i.size = 1 ∧ i.bytes = 8 := by
    have hi := info_int
    cases hq : Try.prog.info? 3 with
    | none => rw [hq] at hi; cases hi
    | some i => rw [hq] at hi; simp at hi; exact ⟨i, rfl, hi.1, hi.2.1, hi.2.2⟩
  cases a with
  | none =>
    obtain rfl : m = [] := by
      rcases hm with h | ⟨b, off, e, _⟩
      · exact h
      · cases e
    obtain ⟨base, cap, rfl, hle⟩ : ∃ base cap, v = .slice base l.length cap ∧ l.length ≤ cap := by
      rcases h.2 with ⟨e, h0⟩ | ⟨g, cap, cur, e, _, _, hle, _⟩
      · exact ⟨none, 0, by rw [e, h0], by omega⟩
      · exact ⟨_, cap, e, hle⟩
    refine ⟨base, cap, w, ?_, by simpa using h, Below.refl _ _⟩
    have := run_append_nothing (P := Try.prog) w 24 24 24 3 i Try.underlying24 hq base l.length cap hle (.slice none 0 c) (by rw [z2]; exact Src.ofNil w Try.underlying24 c)
    simpa using this
  | some ad =>
    have hn : ∀ (j : Nat) (u : Value), (m.map (Value.int .i64))[j]? = some u → w.cell? (ad.add j) = some u := by
      rcases hm with rfl | ⟨b, off, e, _, hc⟩
      · intro j u hu; simp at hu
      · cases e; exact ints_news hc
    obtain ⟨v', w', hr, h2, h3, _, _⟩ := run_append_own_at (P := Try.prog) w B 24 24 3 i (.int .i64 0) 1 8 Try.underlying24 hq z1 z2 z3 rfl (by decide) v l.length (l.map (Value.int .i64)) h ad m.length c (m.map (Value.int .i64)) (by simp) hn (by intro u hu; obtain ⟨x, _, rfl⟩ := List.mem_map.1 hu; rfl) (by unfold maxLen; omega) (by omega) hB
    have h2' : NewInts B w' v' (l ++ m) := by
      show World.ownsRow _ _ _ _ _ _ _
      simpa using h2
    obtain ⟨a', c', rfl, _⟩ := h2'.ints
    exact ⟨a', c', w', hr, h2', grown_below h3 h.row hB⟩
/-- Growing by one number, which lies in a block of its own. -/
theorem grow1 {B : Nat} {w : World} {v : Value} {l : List Int} (x : Int) (h : NewInts B w v l) (hB : B ≤ w.heap.size) (hl : l.length < 1048576) :
    ∃ a' c' w', (Builtin.append_ #[24, 24] 24 #[v, .slice (some ⟨w.heap.size, 0, none⟩) 1 1]).run Try.prog (w.alloc (.cells #[.int .i64 x] 3)) = .ok (.slice a' (l.length + 1) c') w' ∧ NewInts B w' (.slice a' (l.length + 1) c') (l ++ [x]) ∧ Below B w w' := by
  obtain ⟨a', c', w', hr, h2, h3⟩ := growL (ownsRow_keep h (bAlloc (Below.refl _ _) (.cells #[.int .i64 x] 3))) (ints_new w [x] 3) (by simp; omega) (by simp; omega) 1
  refine ⟨a', c', w', by simpa using hr, by simpa using h2, ?_⟩
  have := (bAlloc (Below.refl w.heap.size w) (.cells #[.int .i64 x] 3)).mono hB
  exact this.trans h3
theorem NewInts.keep {B : Nat} {w w' : World} {v : Value} {l : List Int} (h : NewInts B w v l) (hb : Below w.heap.size w w') : NewInts B w' v l := ownsRow_keep h hb
theorem NewInts.nil (B : Nat) (w : World) : NewInts B w (.slice none 0 0) [] := ⟨rfl, .inl ⟨rfl, rfl⟩⟩
/-- An append whose run is known, at the operation's own type. -/
theorem wpList_append_ty {P : Program} {w w' : World} {ops : Array Oper} {rest : List Oper} {o : Oper} {a : Act} {Q : Exit → Act → World → Prop} (hgd : o.guard = none) (d s : Operand) (dT sT : TypeId)
    (ho : o.op = .call { callee := .builtin .append, args := #[d, s], argTypes := #[dT, sT] }) (x y v : Value) (hd : a.eval d = x) (hs : a.eval s = y)
    (hrun : (Builtin.append_ #[dT, sT] o.type #[x, y]).run P w = .ok v w') (h : wpList P ops Q rest (a.put o.dst v) w') : wpList P ops Q (o :: rest) a w := by
  refine wpList_plain hgd fun K hK => ?_
  unfold Oper.wp
  simp [execOp, ho, resolve, invoke, builtin, hd, hs, hrun, Result.andThen]
  exact hK _ _ h
/-- The same, as one step of a region that draws its order. -/
theorem step_append_ty {ops : Array Oper} {o : Oper} {a : Act} {w w' : World} {K : Act → World → Prop} {Q : Exit → Act → World → Prop} {E : Prop} (hgd : o.guard = none) (d s : Operand) (dT sT : TypeId)
    (ho : o.op = .call { callee := .builtin .append, args := #[d, s], argTypes := #[dT, sT] }) (x y v : Value) (hd : a.eval d = x) (hs : a.eval s = y)
    (hrun : (Builtin.append_ #[dT, sT] o.type #[x, y]).run Try.prog w = .ok v w') (hK : K (a.put o.dst v) w') :
    if Region.wanted o (yielded ops a.tmps) = true then Oper.wp Try.prog o a w K Q else E := by
  have hw : Region.wanted o (yielded ops a.tmps) = true := by simp [Region.wanted, hgd]
  rw [if_pos hw]
  unfold Oper.wp
  simp [execOp, ho, resolve, invoke, builtin, hd, hs, hrun, Result.andThen]
  exact hK
/-- An array that is being made, in a box at block g: its shape stands, its numbers grow, in memory behind the box. -/
structure OutAt (g : Nat) (W0 wr : World) (sv : Value) (ad : Option Addr) (cd k : Nat) (m : List Int) : Prop where
  box : Box wr g sv (.slice ad k cd) 26
  row : NewInts (g + 1) wr (.slice ad k cd) m
  below : Below g W0 wr
  len : m.length = k
theorem outAt_new {w : World} {sv : Value} : OutAt w.heap.size w (w.alloc (.cells #[sv, .slice none 0 0] 26)) sv none 0 0 [] :=
  ⟨box_new w _ _ _, NewInts.nil _ _, bAlloc (Below.refl _ _) _, rfl⟩
theorem OutAt.keep {g cd k : Nat} {W0 wr w' : World} {sv : Value} {ad : Option Addr} {m : List Int} (h : OutAt g W0 wr sv ad cd k m) (hb : Below wr.heap.size wr w') : OutAt g W0 w' sv ad cd k m :=
  ⟨h.box.keep hb, h.row.keep hb, h.below.trans (hb.mono (Nat.le_of_lt h.box.lt)), h.len⟩
theorem OutAt.cells {g cd k : Nat} {W0 wr : World} {sv : Value} {ad : Option Addr} {m : List Int} (h : OutAt g W0 wr sv ad cd k m) : wr.cell? ⟨g, 0, none⟩ = some sv ∧ wr.cell? ⟨g, 1, none⟩ = some (.slice ad k cd) ∧ wr.frozen? ⟨g, 0, none⟩ = false ∧ wr.frozen? ⟨g, 1, none⟩ = false :=
  ⟨h.box.c0, h.box.c1, free_at h.box 0, free_at h.box 1⟩
theorem OutAt.box' {g cd k : Nat} {W0 wr w' : World} {sv : Value} {ad : Option Addr} {m : List Int} (h : OutAt g W0 wr sv ad cd k m) (hb : Below (g + 1) wr w') : Box w' g sv (.slice ad k cd) 26 := by
  unfold Box; rw [hb.block g (Nat.lt_succ_self _)]; exact h.box
theorem OutAt.set {g cd k k' cd' : Nat} {W0 wr w' : World} {sv : Value} {ad ad' : Option Addr} {m m' : List Int} (h : OutAt g W0 wr sv ad cd k m) (hn : NewInts (g + 1) w' (.slice ad' k' cd') m') (hb : Below (g + 1) wr w') (hl : m'.length = k') :
    OutAt g W0 (w'.setCell ⟨g, 1, none⟩ (.slice ad' k' cd')) sv ad' cd' k' m' := by
  refine ⟨?_, ?_, below_setCell (h.below.trans (hb.mono (Nat.le_succ _))) (Nat.le_refl _) _ _, hl⟩
  · have := heap_setCell_same w' g 1 _ _ (.slice ad' k' cd') (h.box' hb)
    unfold Box; simpa using this
  · exact hn.but ((But.refl g w').setCell 1 (.slice ad' k' cd')) (by omega)
/-- One number more. -/
theorem OutAt.grow1 {g cd k : Nat} {W0 wr : World} {sv : Value} {ad : Option Addr} {m : List Int} (h : OutAt g W0 wr sv ad cd k m) (hk : k < 1048576) (x : Int) :
    ∃ a' c' w', (Builtin.append_ #[24, 24] 24 #[.slice ad k cd, .slice (some ⟨wr.heap.size, 0, none⟩) 1 1]).run Try.prog (wr.alloc (.cells #[.int .i64 x] 3)) = .ok (.slice a' (k + 1) c') w' ∧ Box w' g sv (.slice ad k cd) 26 ∧ OutAt g W0 (w'.setCell ⟨g, 1, none⟩ (.slice a' (k + 1) c')) sv a' c' (k + 1) (m ++ [x]) := by
  obtain ⟨a', c', w', hr, hn, hb⟩ := Go.Proofs.Ytdobohobhpailaa.grow1 x h.row h.box.lt (by rw [h.len]; exact hk)
  rw [h.len] at hr hn
  exact ⟨a', c', w', hr, h.box' hb, h.set hn hb (by simp [h.len])⟩
/-- A list more. -/
theorem OutAt.growL {g cd k : Nat} {W0 wr : World} {sv : Value} {ad : Option Addr} {m l : List Int} {a : Option Addr} (h : OutAt g W0 wr sv ad cd k m) (hi : Ints wr a l) (hk : k + l.length ≤ 1048576) (c : Nat) :
    ∃ a' c' w', (Builtin.append_ #[24, 24] 24 #[.slice ad k cd, .slice a l.length c]).run Try.prog wr = .ok (.slice a' (k + l.length) c') w' ∧ Box w' g sv (.slice ad k cd) 26 ∧ OutAt g W0 (w'.setCell ⟨g, 1, none⟩ (.slice a' (k + l.length) c')) sv a' c' (k + l.length) (m ++ l) := by
  obtain ⟨a', c', w', hr, hn, hb⟩ := Go.Proofs.Ytdobohobhpailaa.growL h.row hi h.box.lt (by rw [h.len]; exact hk) c
  rw [List.length_append, h.len] at hr hn
  exact ⟨a', c', w', hr, h.box' hb, h.set hn hb (by simp [h.len])⟩
/-- The array that was made. -/
theorem OutAt.arr {g cd k B E : Nat} {W0 wr : World} {a : Option Addr} {c : Nat} {ad : Option Addr} {m S : List Int} (h : OutAt g W0 wr (.slice a S.length c) ad cd k m) (hS : Piece B E W0 (.slice a S.length c) S) (hE : E ≤ g) (hB : B ≤ g) : Arr B wr.heap.size wr (.agg #[.slice a S.length c, .slice ad k cd]) S m := by
  have p1 : Piece B E wr (.slice a S.length c) S := hS.belowC h.below hE
  have p2 := h.row.piece
  have hz := h.box.lt
  exact ⟨_, _, rfl, p1.mono (Nat.le_refl _) (by omega), p2.mono (by omega) (Nat.le_refl _), p1.apart p2 (.inl (by omega))⟩
end Go.Proofs.Ytdobohobhpailaa
namespace Go.Proofs.Ytdobohobhpailaa
open Go.RowKit
set_option linter.unusedVariables false
set_option linter.unusedSimpArgs false
/-- The numbers of the first n arrays of a list, one behind the other. -/
def catF (F : List (List Int)) (n : Nat) : List Int := (List.range n).flatMap (fun i => F.getD (2 * i + 1) [])
theorem catF_succ (F : List (List Int)) (n : Nat) : catF F (n + 1) = catF F n ++ F.getD (2 * n + 1) [] := by
  unfold catF; rw [List.range_succ, List.flatMap_append]; simp
theorem catF_mono (F : List (List Int)) {k n : Nat} (h : k ≤ n) : (catF F k).length ≤ (catF F n).length := by
  induction n with
  | zero => obtain rfl : k = 0 := by omega
            exact Nat.le_refl _
  | succ n ih =>
    by_cases e : k = n + 1
    · subst e; exact Nat.le_refl _
    · rw [catF_succ, List.length_append]
      have := ih (by omega)
      omega
end Go.Proofs.Ytdobohobhpailaa
namespace Go.Proofs.Ytdobohobhpailaa
open Go.RowKit
set_option linter.unusedVariables false
set_option linter.unusedSimpArgs false
/-- The tail of a list of one number or more. -/
theorem tail_cut {w : World} {a : Option Addr} {n0 : Int} {t : List Int} {c : Nat} (h : Ints w a (n0 :: t)) (hc : t.length + 1 ≤ c) :
    ∃ tl ct, (∀ W, (Instr.slice 24 (.slice a (t.length + 1) c) (some (.int .i64 1)) none none).run Try.prog W = .ok (.slice tl t.length ct) W) ∧ IntsI w (.slice tl t.length ct) t := by
  rcases h with h | ⟨b, o, rfl, hb, hc'⟩
  · cases h
  · by_cases e : 1 < c
    · refine ⟨some ⟨b, o + 1, none⟩, c - 1, fun W => slice_tail W b o t.length c e, _, _, rfl, by omega, .inr ⟨b, o + 1, rfl, hb, fun k hk => ?_⟩⟩
      have := hc' (k + 1) (by simp; omega)
      rw [show o + 1 + k = o + (k + 1) from by omega, this]
      simp
    · obtain rfl : c = 1 := by omega
      obtain rfl : t = [] := List.eq_nil_of_length_eq_zero (by omega)
      exact ⟨some ⟨b, o, none⟩, 0, fun W => slice_one W b o, _, _, rfl, by simp, .inl rfl⟩
/-- Arrays of a list, by their numbers. -/
def pickF (F : List (List Int)) (idx : Nat → Nat) (k : Nat) : List (List Int) := (List.range k).flatMap (fun i => [F.getD (2 * idx i) [], F.getD (2 * idx i + 1) []])
theorem pickF_length (F : List (List Int)) (idx : Nat → Nat) (k : Nat) : (pickF F idx k).length = 2 * k := flat2_length k _ (fun _ => rfl)
theorem pickF_succ (F : List (List Int)) (idx : Nat → Nat) (k : Nat) : pickF F idx (k + 1) = pickF F idx k ++ [F.getD (2 * idx k) [], F.getD (2 * idx k + 1) []] := by
  unfold pickF; rw [List.range_succ, List.flatMap_append]; simp
theorem pickF_at (F : List (List Int)) (idx : Nat → Nat) {k i : Nat} (h : i < k) : (pickF F idx k).getD (2 * i + 1) [] = F.getD (2 * idx i + 1) [] := by
  induction k with
  | zero => omega
  | succ k ih =>
    rw [pickF_succ, List.getD_eq_getElem?_getD]
    by_cases e : i = k
    · subst e
      rw [List.getElem?_append_right (by rw [pickF_length]; omega), pickF_length, show 2 * i + 1 - 2 * i = 1 from by omega]
      rfl
    · rw [List.getElem?_append_left (by rw [pickF_length]; omega), ← List.getD_eq_getElem?_getD]
      exact ih (by omega)
theorem catF_pick (F : List (List Int)) (idx : Nat → Nat) (n : Nat) : catF (pickF F idx n) n = (List.range n).flatMap (fun i => F.getD (2 * idx i + 1) []) := by
  unfold catF
  rw [List.flatMap_def, List.flatMap_def]
  congr 1
  apply List.map_congr_left
  intro i hi
  exact pickF_at F idx (by simpa using hi)
/-- The list that is made: its cells, and that each list in it can be read in the world in which it began. -/
structure ListAt (W0 wr : World) (v : Value) (k : Nat) (xs : List Value) (F : List (List Int)) : Prop where
  own : wr.ownsRow W0.heap.size 26 2 v k xs
  ints : ∀ j, j < 2 * k → IntsI W0 (xs.getD j undef) (F.getD j [])
  len : F.length = 2 * k
  below : Below W0.heap.size W0 wr
theorem listAt_new (w : World) : ListAt w (w.alloc (.cells #[] 26)) (.slice (some ⟨w.heap.size, 0, none⟩) 0 0) 0 [] [] := by
  refine ⟨⟨rfl, .inr ⟨w.heap.size, 0, #[], rfl, Nat.le_refl _, heap_alloc_new w _, Nat.le_refl _, by unfold maxLen; omega, rfl, rfl⟩⟩, ?_, rfl, bAlloc (Below.refl _ _) _⟩
  intro j hj; omega
theorem ListAt.arrsI {W0 wr : World} {v : Value} {k : Nat} {xs : List Value} {F : List (List Int)} (h : ListAt W0 wr v k xs F) : ArrsI wr v F := by
  rcases h.own.2 with ⟨rfl, h0⟩ | ⟨g, cap, cur, rfl, hB, hg, hle, hmax, hsz, htk⟩
  · subst h0
    exact ⟨none, 0, 0, rfl, h.len, .inl rfl⟩
  · refine ⟨_, k, cap, rfl, h.len, .inr ⟨g, 0, xs, rfl, lt_of_heapA hg, by rw [h.len, h.own.1]; omega, fun j hj => ⟨?_, (h.ints j (by rw [h.own.1] at hj; omega)).keep h.below⟩⟩⟩
    have hx := h.own.1
    have hj' : j < k * 2 := by rw [← hx]; exact hj
    refine cell_at (fr := (0, 0)) hg ?_
    rw [Nat.zero_add]
    have e : (cur.toList.take (k * 2))[j]? = xs[j]? := by rw [htk]
    rw [List.getElem?_take_of_lt hj'] at e
    rw [← Array.getElem?_toList, e]
    simp [hj]
theorem getD_snoc2 {α : Type} (xs : List α) (x y z : α) {k : Nat} (hx : xs.length = k) : (∀ j, j < k → (xs ++ [x, y]).getD j z = xs.getD j z) ∧ (xs ++ [x, y]).getD k z = x ∧ (xs ++ [x, y]).getD (k + 1) z = y := by
  subst hx
  refine ⟨fun j hj => ?_, ?_, ?_⟩
  · simp only [List.getD_eq_getElem?_getD]; rw [List.getElem?_append_left hj]
  · simp
  · simp only [List.getD_eq_getElem?_getD]; rw [List.getElem?_append_right (by omega), show xs.length + 1 - xs.length = 1 from by omega]; rfl
/-- One array more. -/
theorem ListAt.grow {W0 wr : World} {v : Value} {k : Nat} {xs : List Value} {F : List (List Int)} (h : ListAt W0 wr v k xs F) (hk : k < 1000000) {x y : Value} {s d : List Int} (hx : IntsI W0 x s) (hy : IntsI W0 y d) :
    ∃ a' c' w', (Builtin.append_ #[61, 61] 61 #[v, .slice (some ⟨wr.heap.size, 0, none⟩) 1 1]).run Try.prog (wr.alloc (.cells #[x, y] 26)) = .ok (.slice a' (k + 1) c') w' ∧ ListAt W0 w' (.slice a' (k + 1) c') (k + 1) (xs ++ [x, y]) (F ++ [s, d]) := by
  obtain ⟨i, hq, z1, z2, z3⟩ : ∃ i, Try.prog.info? 26 = some i ∧ i.zero = some (.agg #[.slice none 0 0, .slice none 0 0]) ∧ i.size = 2 ∧ i.bytes = 48 := by
    have hi := info_arr
    cases hq : Try.prog.info? 26 with
    | none => rw [hq] at hi; cases hi
    | some i => rw [hq] at hi; simp at hi; exact ⟨i, rfl, hi.1, hi.2.1, hi.2.2⟩
  have hx' := hx
  have hy' := hy
  obtain ⟨a1, c1, rfl, _, _⟩ := hx
  obtain ⟨a2, c2, rfl, _, _⟩ := hy
  obtain ⟨v', w', hr, h2, h3, _, _⟩ := run_append_own_at (P := Try.prog) (wr.alloc (.cells #[.slice a1 s.length c1, .slice a2 d.length c2] 26)) W0.heap.size 61 61 26 i _ 2 48 Try.underlying61 hq z1 z2 z3 rfl (by decide) v k xs (ownsRow_keep h.own (bAlloc (Below.refl _ _) _)) ⟨wr.heap.size, 0, none⟩ 1 1 [.slice a1 s.length c1, .slice a2 d.length c2] rfl (World.news_of_block (cs := #[.slice a1 s.length c1, .slice a2 d.length c2]) (heap_alloc_new wr _)) (by simp [Value.oneCell']) (by unfold maxLen; omega) (by omega) (by have := h.below.size; simp; omega)
  obtain ⟨g, cap, hv, _, _⟩ := h2.form (by omega)
  subst hv
  have hb : Below W0.heap.size W0 w' := by
    have := h.below.size
    refine (bAlloc h.below (.cells #[.slice a1 s.length c1, .slice a2 d.length c2] 26)).trans (grown_below h3 (fun r e => ?_) (by simp; omega))
    rcases h.own.2 with ⟨rfl, _⟩ | ⟨g', cap', cur, rfl, hB, _⟩
    · cases e
    · cases e; exact hB
  obtain ⟨q1, q2, q3⟩ := getD_snoc2 xs (.slice a1 s.length c1) (.slice a2 d.length c2) undef (k := 2 * k) (by rw [h.own.1]; omega)
  obtain ⟨p1, p2, p3⟩ := getD_snoc2 F s d [] (k := 2 * k) h.len
  refine ⟨_, _, w', hr, h2, fun j hj => ?_, by rw [List.length_append, h.len]; simp; omega, hb⟩
  by_cases e : j < 2 * k
  · rw [q1 j e, p1 j e]; exact h.ints j e
  · by_cases e2 : j = 2 * k
    · subst e2; rw [q2, p2]; exact hx'
    · obtain rfl : j = 2 * k + 1 := by omega
      rw [q3, p3]; exact hy'
end Go.Proofs.Ytdobohobhpailaa
namespace Go.Proofs.Ytdobohobhpailaa
open Go.RowKit Go.Shelf
set_option linter.unusedVariables false
set_option linter.unusedSimpArgs false
attribute [local go_sem] Oper.semAt_some
theorem keeps_of_below {n0 q : Nat} {W W' : World} (h : Below n0 W W') (hq : q < n0) : KeepsBox q W W' := h.block q hq
theorem flat_snocV {cnt : Nat} (f : Fin cnt → List Value) (pre : List (Fin cnt)) (x : Fin cnt) : (pre ++ [x]).flatMap f = pre.flatMap f ++ f x := by simp [List.flatMap_append]
set_option maxRecDepth 100000 in
set_option maxHeartbeats 4000000 in
theorem appendSeq_in (q cnt N r b1 o1 c dl e ct : Nat) (tl b : Option Addr) (ad : Nat → Option Addr) (cd : Nat → Nat) (hc : cnt ≤ 300) (hN : N ≤ 300) (hr : r ≤ 3)
    (hq : 0 < cnt → (dl : Int) / (cnt : Int) = N)
    (hs1 : ∀ W, (Instr.slice 24 (.slice (some ⟨b1, o1, none⟩) (r + 1) c) (some (.int .i64 1)) (some (.int .i64 ((r : Int) + 1))) (some (.int .i64 ((r : Int) + 1)))).run Try.prog W = .ok (.slice tl r ct) W)
    (hs2 : ∀ (k M R : Nat) W, k < cnt → k * N = M → (k + 1) * N = R → (Instr.slice 24 (.slice b dl e) (some (.int .i64 (M : Int))) (some (.int .i64 (R : Int))) (some (.int .i64 (R : Int)))).run Try.prog W = .ok (.slice (ad k) N (cd k)) W)
    (w : World) (hb1 : b1 < w.heap.size) (hB : Box w q (.slice (some ⟨b1, o1, none⟩) (r + 1) c) (.slice b dl e) 26) (h0 : w.cell? ⟨b1, o1, none⟩ = some (.int .i64 (cnt : Int))) :
    CallsIn Fence.wide 5 Try.prog 62 #[.slice none 0 0, .func (.func 63) #[] #[.pointer (some ⟨q, 0, none⟩)]] w fun e W' => ∃ v, e = .returned v ∧ W'.ownsRow w.heap.size 26 2 v cnt ((List.finRange cnt).flatMap (fun k => [.slice tl r ct, .slice (ad k.1) N (cd k.1)])) ∧ Below w.heap.size w W' := by
  obtain ⟨i0, hi0, z1, z2, z3⟩ : ∃ i0, Try.prog.info? 26 = some i0 ∧ i0.zero = some (.agg #[.slice none 0 0, .slice none 0 0]) ∧ i0.size = 2 ∧ i0.bytes = 48 := by
    have hi := info_arr
    cases hq : Try.prog.info? 26 with
    | none => rw [hq] at hi; cases hi
    | some i => rw [hq] at hi; simp at hi; exact ⟨i, rfl, hi.1, hi.2.1, hi.2.2⟩
  have hqw := hB.lt
  refine callsIn_of_wp_marks Try.func62 rfl trivial ?_ rfl
  simp only [Try.ntmps62, List.size_toArray, List.length_cons, List.length_nil, Nat.reduceAdd, Nat.reduceSub, Array.replicate_succ, Array.replicate_zero, List.push_toArray, List.append_toArray, List.nil_append, List.cons_append]
  gi_wp2_with fail
  have bO := Boxed.new w 61 (.slice none 0 0)
  have hB0 : Below w.heap.size w (w.alloc (.cells #[.slice none 0 0] 61)) := bAlloc (Below.refl _ _) _
  refine wpIn_rangeFunc_ownH rfl (by decide) (gf := 63) (lb := #[.pointer (some ⟨q, 0, none⟩)]) rfl trivial (enters_of Try.func63 (by kernel_rfl) rfl)
    (cut_stops 4 q cnt N r b1 o1 c dl e ct tl b ad cd (by decide) hc hN hr hq hs1 hs2 (w.alloc (.cells #[.slice none 0 0] 61)) (by simp; omega) (hB.keep hB0) ((hB0.cell (p := ⟨b1, o1, none⟩) hb1).trans h0)) keepsBox_t (keepsBox_b (by simp; omega)) (Below.refl _ _) (fun _ => rfl)
    (fun pre W => (∃ v, Boxed W w.heap.size 61 v ∧ W.ownsRow w.heap.size 26 2 v pre.length (pre.flatMap (fun k => [.slice tl r ct, .slice (ad k.1) N (cd k.1)])) ∧ True) ∧ Below w.heap.size w W)
    (fun _ _ _ => False)
    (OwnFrom.and (Own.from (holdsRow_own w.heap.size w.heap.size 61 26 2 (fun pre : List (Fin cnt) => pre.length) (fun pre => pre.flatMap (fun k => [.slice tl r ct, .slice (ad k.1) N (cd k.1)])) (fun _ _ => True)) _) (ownFrom_below (Nat.le_refl _) (by simp)))
    (fun _ _ _ _ _ hs _ _ => hs)
    ⟨⟨_, bO, World.ownsRow_nil _ _ _ _, trivial⟩, hB0⟩
    (fun x a' W => ∃ Bx, w.heap.size < Bx ∧ Box W Bx (.slice tl r ct) (.slice (ad x.1) N (cd x.1)) 26 ∧ a' = { tmps := #[.slice none 0 0, .func (.func 63) #[] #[.pointer (some ⟨q, 0, none⟩)], .pointer (some ⟨w.heap.size, 0, none⟩), undef, .slice none 0 0, .pointer (some ⟨Bx, 0, none⟩), .func (.func 63) #[] #[.pointer (some ⟨q, 0, none⟩)], .agg #[.slice tl r ct, .slice (ad x.1) N (cd x.1)], undef, undef, undef, undef, undef], defers := [] })
    ?hAx ?assign ?body ?done ?stop
  case hAx =>
    rintro x a' _ X Y row ⟨Bx, h1, h2, h3⟩ hg hr'
    refine ⟨Bx, h1, ?_, h3⟩
    unfold Box at h2 ⊢
    rw [hg.block Bx (lt_of_heapA h2) (fun e' => ?_)]
    · exact h2
    · obtain ⟨_, o, ho, hcc⟩ := hr' Bx e'.symm; rw [h2] at ho; cases ho; cases hcc
  case assign =>
    rintro l pre x W K ⟨⟨v, hv, hrow, _⟩, hbl⟩ hK
    gi_wp2
    exact hK _ _ ((KeepsOthers.alloc _ _).from _) (Below.heap_alloc _ _ _ (by have := hbl.size; omega)) ⟨⟨v, hv.alloc _, hrow.alloc _, trivial⟩, bAlloc hbl _⟩ ⟨W.heap.size, hv.lt, box_new W _ _ _, rfl⟩
  case body =>
    rintro l pre x a' W hl _ ⟨⟨v, hv, hrow, _⟩, hbl⟩ ⟨Bx, hBx, hX, rfl⟩ hlt
    have hc' := hv.cell
    have y0 := hX.c0
    have y1 := hX.c1
    have hsz := hbl.size
    gi_wp2_with (gi_at_builtin; refine wpListIn_append_own _ rfl _ _ 61 rfl w.heap.size 26 i0 (.agg #[.slice none 0 0, .slice none 0 0]) 2 48 Try.underlying61 hi0 z1 z2 z3 rfl (by decide) _ _ _ rfl (hrow.alloc _) ⟨W.heap.size, 0, none⟩ 1 1 [.slice tl r ct, .slice (ad x.1) N (cd x.1)] rfl rfl (World.news_of_block (cs := #[.slice tl r ct, .slice (ad x.1) N (cd x.1)]) (heap_alloc_new W _)) (by simp [Value.oneCell']) (by unfold maxLen; omega) (by omega) (by simp; omega) ?_; intro v' w1 hown' hgrow _; obtain ⟨g', cap', rfl⟩ := ownsRow_succ hown'; obtain ⟨hv1, hv2, hr2, hk2, hb2⟩ := hv.appended (by decide) hrow hbl.size (Nat.le_refl _) hown' hgrow; have hc1 := hv1.cell; have hf1 := hv1.frozen)
    exact ⟨hk2.from _, keeps_of_below hb2 hqw, ⟨_, hv2, by rw [flat_snocV]; simpa using hr2, trivial⟩, hbl.trans hb2⟩
  case done =>
    rintro D ys W hD rfl ⟨⟨v, hv, hrow, _⟩, hbl⟩ hK
    have hc' := hv.cell
    gi_wp2
    refine ⟨by simp, .inl ⟨_, _, rfl, run_takeDeferred hK, ?_⟩⟩
    refine ⟨_, results_tmp rfl _ _ _, v, rfl, ?_, hbl.trans (belowK_b (w := w) (Nat.le_refl _) W D _ _ (by simp at hD; omega) hK rfl rfl)⟩
    have q := ownsRow_putObj hrow (.deferred none) hK rfl
    rw [List.length_finRange] at q
    exact q
  case stop =>
    rintro D c' pre W _ _ h _
    exact h.elim
set_option maxHeartbeats 1000000 in
/-- slices.Collect. -/
theorem collect_impl (q cnt N r b1 o1 c dl e ct : Nat) (tl b : Option Addr) (ad : Nat → Option Addr) (cd : Nat → Nat) (hc : cnt ≤ 300) (hN : N ≤ 300) (hr : r ≤ 3)
    (hq : 0 < cnt → (dl : Int) / (cnt : Int) = N)
    (hs1 : ∀ W, (Instr.slice 24 (.slice (some ⟨b1, o1, none⟩) (r + 1) c) (some (.int .i64 1)) (some (.int .i64 ((r : Int) + 1))) (some (.int .i64 ((r : Int) + 1)))).run Try.prog W = .ok (.slice tl r ct) W)
    (hs2 : ∀ (k M R : Nat) W, k < cnt → k * N = M → (k + 1) * N = R → (Instr.slice 24 (.slice b dl e) (some (.int .i64 (M : Int))) (some (.int .i64 (R : Int))) (some (.int .i64 (R : Int)))).run Try.prog W = .ok (.slice (ad k) N (cd k)) W)
    (w : World) (hb1 : b1 < w.heap.size) (hB : Box w q (.slice (some ⟨b1, o1, none⟩) (r + 1) c) (.slice b dl e) 26) (h0 : w.cell? ⟨b1, o1, none⟩ = some (.int .i64 (cnt : Int))) :
    Calls Try.prog 47 #[.func (.func 63) #[] #[.pointer (some ⟨q, 0, none⟩)]] w fun e W' => ∃ v, e = .returned v ∧ W'.ownsRow w.heap.size 26 2 v cnt ((List.finRange cnt).flatMap (fun k => [.slice tl r ct, .slice (ad k.1) N (cd k.1)])) ∧ Below w.heap.size w W' := by
  have HA : Hid (Calls Try.prog 62 #[.slice none 0 0, .func (.func 63) #[] #[.pointer (some ⟨q, 0, none⟩)]] w fun e W' => ∃ v, e = .returned v ∧ W'.ownsRow w.heap.size 26 2 v cnt ((List.finRange cnt).flatMap (fun k => [.slice tl r ct, .slice (ad k.1) N (cd k.1)])) ∧ Below w.heap.size w W') := (callsIn_wide (n := 5)).1 (appendSeq_in q cnt N r b1 o1 c dl e ct tl b ad cd hc hN hr hq hs1 hs2 w hb1 hB h0)
  clear hc hN hr hq hs1 hs2 hb1 hB h0
  go_enter Try.func47, Try.ntmps47
  go_wp2_with fail
  refine (HA.out).mono ?_
  rintro r' w1 ⟨v, rfl, hrow, hb⟩
  have HR : Hid (w1.ownsRow w.heap.size 26 2 v cnt ((List.finRange cnt).flatMap (fun k => [.slice tl r ct, .slice (ad k.1) N (cd k.1)])) ∧ Below w.heap.size w w1) := ⟨hrow, hb⟩
  clear hrow hb
  go_wp2
  go_ret
  exact ⟨v, rfl, HR.out.1, HR.out.2⟩
theorem flat2_atV {α : Type} (n k : Nat) (f g : Nat → α) (z : α) (hk : k < n) : ((List.range n).flatMap (fun i => [f i, g i])).getD (2 * k) z = f k ∧ ((List.range n).flatMap (fun i => [f i, g i])).getD (2 * k + 1) z = g k ∧ ((List.range n).flatMap (fun i => [f i, g i])).length = 2 * n := by
  have hlen : ∀ n, ((List.range n).flatMap (fun i => [f i, g i])).length = 2 * n := by
    intro n
    induction n with
    | zero => rfl
    | succ n ih => rw [List.range_succ, List.flatMap_append, List.length_append, ih]; simp; omega
  refine ⟨?_, ?_, hlen n⟩
  all_goals
    induction n with
    | zero => omega
    | succ n ih =>
      rw [List.range_succ, List.flatMap_append, getD_app, hlen n]
      by_cases e : k < n
      · rw [if_pos (by omega)]; exact ih e
      · obtain rfl : k = n := by omega
        rw [if_neg (by omega)]
        first
        | (rw [show 2 * k - 2 * k = 0 by omega]; simp)
        | (rw [show 2 * k + 1 - 2 * k = 1 by omega]; simp)
theorem finRange_flatV {α : Type} (n : Nat) (f : Nat → List α) : (List.finRange n).flatMap (fun k => f k.1) = (List.range n).flatMap f := by
  rw [← finRange_val, List.flatMap_map]
/-- slices.Collect of what cutRows tells, of an array that is right and of rank 1 and above. -/
theorem collect_rows {n0 : Int} {t d : List Int} {w : World} {x y : Value} {q : Nat} (h : ArrI w (.agg #[x, y]) (n0 :: t) d) (ho : arrOk (n0 :: t) d = true) (hB : Box w q x y 26) :
    Calls Try.prog 47 #[.func (.func 63) #[] #[.pointer (some ⟨q, 0, none⟩)]] w fun e w' => ∃ v xs, e = .returned v ∧ ListAt w w' v (rowsN (n0 :: t)) xs (flatR t (rowsD (n0 :: t) d)) := by
  have H := h
  obtain ⟨a, c, b, e, ev, h1, h2, g1, g2⟩ := h
  cases ev
  obtain ⟨b1, o1, rfl, hb1, c0⟩ := h1.at (k := 0) (by simp)
  have hh := head_bd ho
  simp only [List.getD_cons_zero] at hh c0
  rw [Nat.add_zero] at c0
  obtain ⟨cnt, rfl⟩ : ∃ cnt : Nat, n0 = (cnt : Int) := ⟨n0.toNat, by omega⟩
  have k1 := (sizeV_ok (arrOk_shape ho)).1
  simp at k1
  have hdl := arrOk_len ho
  obtain ⟨N, hN⟩ : ∃ N : Nat, (0 < cnt → sizeV t = (N : Int)) ∧ (¬ 0 < cnt → N = 0) := by
    by_cases hp : 0 < cnt
    · exact ⟨(sizeV t).toNat, fun _ => by have := tail_size ho (by omega); omega, fun h => absurd hp h⟩
    · exact ⟨0, fun h => absurd h hp, fun _ => rfl⟩
  have hmul : 0 < cnt → cnt * N = d.length := fun hp => by
    have q := (tail_size ho (by omega)).2.1
    rw [hN.1 hp] at q
    have : ((cnt * N : Nat) : Int) = (d.length : Int) := by simpa using q
    omega
  have hN3 : N ≤ 300 := by
    by_cases hp : 0 < cnt
    · have := (tail_size ho (by omega)).2.2; have := hN.1 hp; omega
    · have := hN.2 hp; omega
  have hle : ∀ k, k < cnt → k * N + N ≤ d.length := fun k hk => by
    have q : (k + 1) * N ≤ cnt * N := Nat.mul_le_mul_right N (by omega)
    rw [hmul (by omega), Nat.add_mul, Nat.one_mul] at q
    exact q
  have ht : Ints w (some ⟨b1, o1 + 1, none⟩) t := by
    rcases h1 with h1 | ⟨b', off', e', hb', hc'⟩
    · cases h1
    · cases e'
      refine .inr ⟨b1, o1 + 1, rfl, hb', fun k hk => ?_⟩
      have q := hc' (k + 1) (by simp; omega)
      rw [show o1 + (k + 1) = o1 + 1 + k by omega] at q
      simpa using q
  have hlen : ∀ k, k < cnt → ((d.drop (k * N)).take N).length = N := fun k hk => by have := hle k hk; simp; omega
  have hF : flatR t (rowsD ((cnt : Int) :: t) d) = (List.range cnt).flatMap (fun k => [t, (d.drop (k * N)).take N]) := by
    unfold flatR rowsD
    rw [List.flatMap_map, show rowsN ((cnt : Int) :: t) = cnt by simp [rowsN]]
    by_cases hp : 0 < cnt
    · unfold rowAt
      rw [show rowN ((cnt : Int) :: t) = N by simp [rowN, hN.1 hp]]
    · obtain rfl : cnt = 0 := by omega
      rfl
  have hrow : ∀ k, k < cnt → IntsI w (.slice (if t.length = 0 then some ⟨b1, o1, none⟩ else some ⟨b1, o1 + 1, none⟩) t.length t.length) t ∧ IntsI w (.slice (if N = 0 then b else b.map (·.add (k * N))) N N) ((d.drop (k * N)).take N) := by
    intro k hk
    refine ⟨⟨_, _, rfl, Nat.le_refl _, ?_⟩, ⟨_, _, by rw [hlen k hk], by rw [hlen k hk]; exact Nat.le_refl _, ?_⟩⟩
    · by_cases h0 : t.length = 0
      · exact .inl (List.eq_nil_of_length_eq_zero h0)
      · rw [if_neg h0]; exact ht
    · by_cases h0 : N = 0
      · subst h0; exact .inl (by simp)
      · have hd0 : 0 < d.length := by have := hle k hk; omega
        obtain ⟨b2, o2, rfl, hb2, _⟩ := h2.at hd0
        rw [if_neg h0]
        have e : (⟨b2, o2, none⟩ : Addr).add (k * N) = ⟨b2, o2 + k * N, none⟩ := by unfold Addr.add; split <;> simp_all
        simp only [Option.map_some, e]
        exact ints_cut h2 (hle k hk)
  rw [hF, show rowsN ((cnt : Int) :: t) = cnt by simp [rowsN]]
  refine (collect_impl q cnt N t.length b1 o1 c d.length e t.length (if t.length = 0 then some ⟨b1, o1, none⟩ else some ⟨b1, o1 + 1, none⟩) b (fun k => if N = 0 then b else b.map (·.add (k * N))) (fun _ => N) (by omega) hN3 (by omega) ?_ ?_ ?_ w hb1 hB c0).mono ?_
  · intro hp
    rw [← hmul hp]
    rw [Int.natCast_mul, Int.mul_ediv_cancel_left _ (by omega)]
  · exact fun W => slice_tail3 W b1 o1 t.length c (by simpa using g1)
  · intro k M R W hk hM hR
    rw [← hM]
    exact slice_cut3 W b d.length e (k * N) R N (by rw [← hR, Nat.add_mul, Nat.one_mul]) (by have := hle k hk; rw [← hR, Nat.add_mul, Nat.one_mul]; omega)
  · rintro r' w1 ⟨v, rfl, hrow', hb⟩
    rw [finRange_flatV cnt (fun k => [Value.slice (if t.length = 0 then some ⟨b1, o1, none⟩ else some ⟨b1, o1 + 1, none⟩) t.length t.length, .slice (if N = 0 then b else b.map (·.add (k * N))) N N])] at hrow'
    refine ⟨v, _, rfl, hrow', fun j hj => ?_, flat2_length cnt _ (fun _ => rfl), hb⟩
    obtain ⟨k, hk, hj2⟩ : ∃ k, k < cnt ∧ (j = 2 * k ∨ j = 2 * k + 1) := ⟨j / 2, by omega, by omega⟩
    obtain ⟨v1, v2, _⟩ := flat2_atV cnt k (fun _ => Value.slice (if t.length = 0 then some ⟨b1, o1, none⟩ else some ⟨b1, o1 + 1, none⟩) t.length t.length) (fun k => Value.slice (if N = 0 then b else b.map (·.add (k * N))) N N) undef hk
    obtain ⟨l1, l2⟩ := flat2_at cnt k (fun _ => t) (fun k => (d.drop (k * N)).take N) hk
    obtain ⟨i1, i2⟩ := hrow k hk
    rcases hj2 with rfl | rfl
    · rw [v1, l1]; exact i1
    · rw [v2, l2]; exact i2
end Go.Proofs.Ytdobohobhpailaa
namespace Go.Proofs.Ytdobohobhpailaa
open Go.RowKit Go.Shelf
set_option linter.unusedVariables false
set_option linter.unusedSimpArgs false
attribute [local go_sem] Oper.semAt_some
/-- What a round keeps: the box of the list, and the list. -/
def KeepsTwo (q b : Nat) (W W' : World) : Prop := W'.heap[q]? = W.heap[q]? ∧ W'.heap[b]? = W.heap[b]?
theorem keepsTwo_t {q b : Nat} {A B C : World} (h : KeepsTwo q b A B) (k : KeepsTwo q b B C) : KeepsTwo q b A C := ⟨k.1.trans h.1, k.2.trans h.2⟩
theorem keepsTwo_b {q b : Nat} {w : World} (hq : q < w.heap.size) (hb : b < w.heap.size) (W : World) (l : Nat) (o o' : Obj) (hl : w.heap.size ≤ l) (_ : W.heap[l]? = some o) (_ : o.isCells = false) (_ : o.isWalk = false) : KeepsTwo q b W (W.putObj l o') :=
  ⟨World.putObj_heap_other (by omega), World.putObj_heap_other (by omega)⟩
theorem cell_same {W W' : World} {b o : Nat} (h : W'.heap[b]? = W.heap[b]?) : W'.cell? ⟨b, o, none⟩ = W.cell? ⟨b, o, none⟩ := World.cell?_of_block (w := W) (w' := W') (a := ⟨b, o, none⟩) h
end Go.Proofs.Ytdobohobhpailaa
namespace Go.Proofs.Ytdobohobhpailaa
open Go.RowKit Go.Shelf
set_option linter.unusedVariables false
set_option linter.unusedSimpArgs false
attribute [local go_sem] Oper.semAt_some
set_option maxRecDepth 100000 in
set_option maxHeartbeats 4000000 in
theorem backA_in (n l q b1 o1 c m : Nat) (a : Option Addr) (xa ya : Nat → Option Addr) (xl xc yl yc : Nat → Nat) (hn : 1 ≤ n) (hc : m ≤ 300) (ha : 0 < m → a = some ⟨b1, o1, none⟩)
    (J Jx : List (Fin m) → World → Prop)
    (hY : ∀ pre x W, J pre W → pre.length < m → YieldAt Fence.wide (n - 1) Try.prog l #[.int .i64 ((m - 1 - x.1 : Nat) : Int), .agg #[.slice (xa (m - 1 - x.1)) (xl (m - 1 - x.1)) (xc (m - 1 - x.1)), .slice (ya (m - 1 - x.1)) (yl (m - 1 - x.1)) (yc (m - 1 - x.1))]] W fun e W' =>
      (e = .returned (.bool true) ∧ J (pre ++ [x]) W' ∧ KeepsTwo q b1 W W') ∨ (e = .returned (.bool false) ∧ Jx (pre ++ [x]) W'))
    (W : World) (hJ : AbidesFrom W.heap.size J) (hB : W.cell? ⟨q, 0, none⟩ = some (.slice a m c)) (h0 : ∀ j, j < m → W.cell? ⟨b1, o1 + j * 2, none⟩ = some (.slice (xa j) (xl j) (xc j)) ∧ W.cell? ⟨b1, o1 + j * 2 + 1, none⟩ = some (.slice (ya j) (yl j) (yc j))) (hj : J [] W) :
    CallsIn Fence.wide n Try.prog 67 #[.func (.yield l) #[] #[], .pointer (some ⟨q, 0, none⟩)] W fun e W' => (∃ v, e = .returned v) ∧
      ((∃ ys, ys = List.finRange m ∧ J ys W') ∨ (∃ pre, (∃ k, k ≤ m ∧ pre = upto m k) ∧ Jx pre W')) := by
  have HB : Hid (W.cell? ⟨q, 0, none⟩ = some (.slice a m c)) := hB
  have HA : Hid (0 < m → a = some ⟨b1, o1, none⟩) := ha
  have H0 : Hid (∀ j, j < m → W.cell? ⟨b1, o1 + j * 2, none⟩ = some (.slice (xa j) (xl j) (xc j)) ∧ W.cell? ⟨b1, o1 + j * 2 + 1, none⟩ = some (.slice (ya j) (yl j) (yc j))) := h0
  have HJ : Hid (AbidesFrom W.heap.size J) := hJ
  clear h0 hJ ha
  refine callsIn_of_wp Try.func67 rfl trivial ?_ rfl
  simp only [Try.ntmps67, List.size_toArray, List.length_cons, List.length_nil, Nat.reduceAdd, Nat.reduceSub, Array.replicate_succ, Array.replicate_zero, List.push_toArray, List.append_toArray, List.nil_append, List.cons_append]
  gi_wp2
  clear hB
  gi_loopw [3] (fun i wr => ∃ k : Nat, k ≤ m ∧ i = .int .i64 ((m : Int) - 1 - (k : Int)) ∧ J (upto m k) wr ∧ KeepsTwo q b1 W wr)
    (fun i _ => (intOf i + 1).toNat)
  case atStart => exact ⟨0, by omega, by simp, HJ.out _ _ _ none hj ⟨rfl, rfl, rfl, Nat.le_refl _, fun _ _ _ => rfl⟩ (fun r e => by cases e), rfl, rfl⟩
  case round =>
    obtain ⟨k, hk, rfl, hJs, hnx⟩ := hrel
    have x0 : wr.cell? ⟨q, 0, none⟩ = some (.slice a m c) := (cell_same hnx.1).trans HB.out
    by_cases hlt : (k : Int) < (m : Int)
    · rw [HA.out (by omega)] at x0
      obtain ⟨M, hM⟩ : ∃ M : Nat, M = m - 1 - k := ⟨_, rfl⟩
      have eM : (m : Int) - 1 - (k : Int) = (M : Int) := by omega
      have hMl : (M : Int) < (m : Int) := by omega
      have c1 : wr.cell? ⟨b1, o1 + M * 2, none⟩ = some (.slice (xa M) (xl M) (xc M)) := (cell_same hnx.2).trans (H0.out M (by omega)).1
      have c2 : wr.cell? ⟨b1, o1 + M * 2 + 1, none⟩ = some (.slice (ya M) (yl M) (yc M)) := (cell_same hnx.2).trans (H0.out M (by omega)).2
      have HL : Hid (k < m) := by show _ < _; omega
      have HJS : Hid (J (upto m k) wr) := hJs
      have HNX : Hid (KeepsTwo q b1 W wr) := hnx
      have hY' := hY (upto m k) ⟨k, HL.out⟩
      rw [← hM] at hY'
      have HM : Hid (M = m - 1 - k) := hM
      rw [eM]
      generalize xa M = xaM at *
      generalize xl M = xlM at *
      generalize xc M = xcM at *
      generalize ya M = yaM at *
      generalize yl M = ylM at *
      generalize yc M = ycM at *
      clear hM hJs hnx hY
      obtain ⟨fn, tmps, assign, body, hy, hRd⟩ := hY' wr HJS.out (by rw [upto_length hk]; exact HL.out)
      try dsimp only at hy
      clear hY'
      gi_wp2
      refine hRd.mono ?_
      rintro e' W4 (⟨rfl, hJ4, hk4⟩ | ⟨rfl, hJx4⟩)
      · have HJ4 : Hid (J (upto m (k + 1)) W4) := by show J _ _; rw [upto_succ HL.out]; exact hJ4
        have HK4 : Hid (KeepsTwo q b1 W W4) := keepsTwo_t HNX.out hk4
        clear hJ4 hk4
        gi_wp2
        go_roundw
        case rel => exact ⟨k + 1, by have := HL.out; omega, by first | go_num | (congr 1; omega) | (simp; omega), HJ4.out, HK4.out⟩
        case measure => simp [intOf]
      · have HX : Hid (Jx (upto m (k + 1)) W4) := by show Jx _ _; rw [upto_succ HL.out]; exact hJx4
        clear hJx4
        gi_wp2
        refine bodyPost_ret (results_none rfl _ _ _) rfl ?_
        exact ⟨⟨_, rfl⟩, .inr ⟨_, ⟨k + 1, HL.out, rfl⟩, HX.out⟩⟩
    · obtain rfl : k = m := by omega
      rw [upto_all] at hJs
      have e0 : (k : Int) - 1 - (k : Int) = -1 := by omega
      rw [e0]
      gi_wp2
      go_end0
      first
        | exact ⟨⟨_, rfl⟩, .inl ⟨_, rfl, hJs⟩⟩
        | exact ⟨⟨_, rfl⟩, .inl hJs⟩
/-- slices.Backward: the list is boxed; the function value captures the box. -/
theorem backwardA_in (n : Nat) (v : Value) (w : World) (hv : v.oneCell' = true) :
    CallsIn Fence.wide n Try.prog 50 #[v] w fun e w' => e = .returned (.func (.func 67) #[] #[.pointer (some ⟨w.heap.size, 0, none⟩)]) ∧ w' = w.alloc (.cells #[v] 61) := by
  refine callsIn_of_wp Try.func50 rfl trivial ?_ rfl
  simp only [Try.ntmps50, List.size_toArray, List.length_cons, List.length_nil, Nat.reduceAdd, Nat.reduceSub, Array.replicate_succ, Array.replicate_zero, List.push_toArray, List.append_toArray, List.nil_append, List.cons_append]
  gi_wp2
  go_ret
  exact ⟨rfl, rfl⟩
/-- The value that slices.Backward hands back tells the arrays from the end. -/
theorem backA_stops (n q b1 o1 c m : Nat) (a : Option Addr) (xa ya : Nat → Option Addr) (xl xc yl yc : Nat → Nat) (hn : 1 ≤ n) (hc : m ≤ 300) (ha : 0 < m → a = some ⟨b1, o1, none⟩) (w : World) (hq : q < w.heap.size) (hb1 : b1 < w.heap.size) (hB : w.cell? ⟨q, 0, none⟩ = some (.slice a m c)) (h0 : ∀ j, j < m → w.cell? ⟨b1, o1 + j * 2, none⟩ = some (.slice (xa j) (xl j) (xc j)) ∧ w.cell? ⟨b1, o1 + j * 2 + 1, none⟩ = some (.slice (ya j) (yl j) (yc j))) :
    SeqStopsK Fence.wide n Try.prog 67 #[.pointer (some ⟨q, 0, none⟩)] (fun x : Fin m => #[.int .i64 ((m - 1 - x.1 : Nat) : Int), .agg #[.slice (xa (m - 1 - x.1)) (xl (m - 1 - x.1)) (xc (m - 1 - x.1)), .slice (ya (m - 1 - x.1)) (yl (m - 1 - x.1)) (yc (m - 1 - x.1))]]) (KeepsTwo q b1) (fun ys => ys = List.finRange m) (fun pre => ∃ k, k ≤ m ∧ pre = upto m k) m w := fun l J Jx W hW hJ _ hY hj =>
  backA_in n l q b1 o1 c m a xa ya xl xc yl yc hn hc ha J Jx hY W hJ ((hW.cell (p := ⟨q, 0, none⟩) hq).trans hB) (fun j hj => ⟨(hW.cell (p := ⟨b1, o1 + j * 2, none⟩) hb1).trans (h0 j hj).1, (hW.cell (p := ⟨b1, o1 + j * 2 + 1, none⟩) hb1).trans (h0 j hj).2⟩) hj
end Go.Proofs.Ytdobohobhpailaa
namespace Go.Proofs.Ytdobohobhpailaa
open Go.RowKit
end Go.Proofs.Ytdobohobhpailaa
namespace Go.Proofs.Ytdobohobhpailaa
open Go.RowKit
theorem ret_int {k : IntKind} {a b : Int} (h : a = b) : Ending.returned (.int k a) = .returned (.int k b) := by rw [h]
theorem ret_two {a b c d : Int} (h : a = b) (h' : c = d) : Ending.returned (.tuple #[.int .i64 a, .int .i64 c]) = .returned (.tuple #[.int .i64 b, .int .i64 d]) := by rw [h, h']

set_option maxHeartbeats 400000 in
theorem roundedDown_impl (a b : Int) (hb : b ≠ 0) (a1 : -1000000000000 ≤ a) (a2 : a ≤ 1000000000000) (b1 : -1000000000000 ≤ b) (b2 : b ≤ 1000000000000) (w : World) :
    Calls Try.prog 84 #[.int .i64 a, .int .i64 b] w fun e w' => e = .returned (.int .i64 (flo a b)) ∧ w' = w := by
  have ht := tdiv_bd (b := b) a1 a2
  have _ := b1
  have _ := b2
  have hg := flo_go a b hb
  have HG : Hid (flo a b = if a.tmod b ≠ 0 ∧ (decide (a < 0) != decide (b < 0)) = true then a.tdiv b - 1 else a.tdiv b) := hg
  clear hg
  obtain ⟨t1, t2⟩ := ht
  go_enter Try.func84, Try.ntmps84
  go_wp2
  all_goals
    go_ret
    refine ⟨ret_int ?_, rfl⟩
    rw [HG.out]
    simp_all [bne]
set_option maxHeartbeats 400000 in
theorem digits_impl (x : Int) (h1 : -1000000000000 ≤ x) (h2 : x ≤ 1000000000000) (w : World) :
    Calls Try.prog 83 #[.int .i64 x] w fun e w' => e = .returned (.int .i64 (bits x.natAbs)) ∧ w' = w := by
  have hm := mag_bd h1 h2
  go_enter Try.func83, Try.ntmps83
  go_wp2_with (go_at_call 87; refine (withoutSign_impl _ h1 h2 _).mono ?_; rintro e w' ⟨rfl, rfl⟩)
  go_loop [3, 4] (fun n r => ∃ (k m : Nat), k + bits m = bits x.natAbs ∧ m ≤ 1000000000000 ∧ n = .int .i64 k ∧ r = .int .i64 m) (fun _ r => (intOf r).toNat)
  case atStart => exact ⟨0, x.natAbs, by omega, by omega, rfl, by rw [mag_abs]⟩
  case round =>
    obtain ⟨k, m, hk, hmm, rfl, rfl⟩ := hrel
    have hs := bits_small hmm
    have hx := bits_small (show x.natAbs ≤ 1000000000000 by omega)
    by_cases hp : 0 < m
    · have hb := bits_pos hp
      have HB : Hid (bits m = bits (m / 2) + 1) := hb
      have HK : Hid (k + bits m = bits x.natAbs) := hk
      have hkb : k ≤ 40 := by omega
      clear hb hk
      go_wp2
      go_round
      case rel => exact ⟨k + 1, m / 2, by have := HB.out; have := HK.out; omega, by omega, by go_num, by go_num⟩
      case measure => simp [intOf]; omega
    · obtain rfl : m = 0 := by omega
      go_wp2
      go_ret
      exact ⟨ret_int (by rw [bits_zero] at hk; omega), rfl⟩
theorem digits_top (w : World) : Calls Try.prog 83 #[.int .i64 1000000000000] w fun e w' => e = .returned (.int .i64 40) ∧ w' = w := by
  refine (digits_impl 1000000000000 (by decide) (by decide) w).mono ?_
  rintro e w' ⟨rfl, rfl⟩
  refine ⟨ret_int ?_, rfl⟩
  have : (1000000000000 : Int).natAbs = 1000000000000 := rfl
  rw [this, bits_top]; rfl
set_option maxHeartbeats 400000 in
theorem oneIf_impl (b : Bool) (w : World) : Calls Try.prog 85 #[.bool b] w fun e w' => e = .returned (.int .i64 (bit b)) ∧ w' = w := by
  cases b <;> (go_enter Try.func85, Try.ntmps85; go_wp2; go_ret; exact ⟨rfl, rfl⟩)
set_option maxHeartbeats 400000 in
theorem rol_impl (x : Int) (w : World) : Calls Try.prog 54 #[.int .i64 x, .int .i64 0] w fun e w' => e = .returned (.tuple #[.int .i64 (limV x), .int .i64 (limC x)]) ∧ w' = w := by
  by_cases h : ok x = true
  · go_enter Try.func54, Try.ntmps54
    go_wp2_with (go_at_call 52; refine (numOk_impl _ _).mono ?_; rintro e w' ⟨rfl, rfl⟩)
    go_ret2
    exact ⟨ret_two (lim_yes h).1.symm (lim_yes h).2.symm, rfl⟩
  · have h : ok x = false := by simpa using h
    go_enter Try.func54, Try.ntmps54
    go_wp2_with (go_at_call 52; refine (numOk_impl _ _).mono ?_; rintro e w' ⟨rfl, rfl⟩)
    go_ret2
    exact ⟨ret_two (lim_no h).1.symm (lim_no h).2.symm, rfl⟩
set_option maxHeartbeats 400000 in
theorem rol_code (x c : Int) (hc : (c == 0) = false) (w : World) : Calls Try.prog 54 #[.int .i64 x, .int .i64 c] w fun e w' => e = .returned (.tuple #[.int .i64 0, .int .i64 c]) ∧ w' = w := by
  go_enter Try.func54, Try.ntmps54
  go_wp2
  go_ret2
  exact ⟨rfl, rfl⟩
set_option maxHeartbeats 400000 in
theorem sum_impl (a b : Int) (a1 : -1000000000000 ≤ a) (a2 : a ≤ 1000000000000) (b1 : -1000000000000 ≤ b) (b2 : b ≤ 1000000000000) (w : World) : Calls Try.prog 69 #[.int .i64 a, .int .i64 b] w fun e w' => e = .returned (.tuple #[.int .i64 (a + b), .int .i64 0]) ∧ w' = w := by
  go_enter Try.func69, Try.ntmps69
  go_wp2
  go_ret2
  exact ⟨rfl, rfl⟩
set_option maxHeartbeats 400000 in
theorem difference_impl (a b : Int) (a1 : -1000000000000 ≤ a) (a2 : a ≤ 1000000000000) (b1 : -1000000000000 ≤ b) (b2 : b ≤ 1000000000000) (w : World) : Calls Try.prog 70 #[.int .i64 a, .int .i64 b] w fun e w' => e = .returned (.tuple #[.int .i64 (a - b), .int .i64 0]) ∧ w' = w := by
  go_enter Try.func70, Try.ntmps70
  go_wp2
  go_ret2
  exact ⟨rfl, rfl⟩
set_option maxHeartbeats 400000 in
theorem isEqual_impl (a b : Int) (w : World) : Calls Try.prog 76 #[.int .i64 a, .int .i64 b] w fun e w' => e = .returned (.tuple #[.int .i64 (bit (a == b)), .int .i64 0]) ∧ w' = w := by
  go_enter Try.func76, Try.ntmps76
  go_wp2_with (go_at_call 85; refine (oneIf_impl _ _).mono ?_; rintro e w' ⟨rfl, rfl⟩)
  go_ret2
  exact ⟨rfl, rfl⟩
set_option maxHeartbeats 400000 in
theorem isBelow_impl (a b : Int) (w : World) : Calls Try.prog 77 #[.int .i64 a, .int .i64 b] w fun e w' => e = .returned (.tuple #[.int .i64 (bit (decide (a < b))), .int .i64 0]) ∧ w' = w := by
  go_enter Try.func77, Try.ntmps77
  go_wp2_with (go_at_call 85; refine (oneIf_impl _ _).mono ?_; rintro e w' ⟨rfl, rfl⟩)
  go_ret2
  exact ⟨rfl, rfl⟩
set_option maxHeartbeats 400000 in
theorem isAbove_impl (a b : Int) (w : World) : Calls Try.prog 78 #[.int .i64 a, .int .i64 b] w fun e w' => e = .returned (.tuple #[.int .i64 (bit (decide (b < a))), .int .i64 0]) ∧ w' = w := by
  go_enter Try.func78, Try.ntmps78
  go_wp2_with (go_at_call 85; refine (oneIf_impl _ _).mono ?_; rintro e w' ⟨rfl, rfl⟩)
  go_ret2
  exact ⟨rfl, rfl⟩
set_option maxHeartbeats 400000 in
theorem lesser_impl (a b : Int) (w : World) : Calls Try.prog 74 #[.int .i64 a, .int .i64 b] w fun e w' => e = .returned (.tuple #[.int .i64 (mn a b), .int .i64 0]) ∧ w' = w := by
  go_enter Try.func74, Try.ntmps74
  go_wp2
  all_goals
    go_ret2
    exact ⟨ret_two (by unfold mn; split <;> omega) rfl, rfl⟩
set_option maxHeartbeats 400000 in
theorem greater_impl (a b : Int) (w : World) : Calls Try.prog 75 #[.int .i64 a, .int .i64 b] w fun e w' => e = .returned (.tuple #[.int .i64 (mx a b), .int .i64 0]) ∧ w' = w := by
  go_enter Try.func75, Try.ntmps75
  go_wp2
  all_goals
    go_ret2
    exact ⟨ret_two (by unfold mx; split <;> omega) rfl, rfl⟩
set_option maxHeartbeats 400000 in
theorem quotient_impl0 (a : Int) (w : World) : Calls Try.prog 72 #[.int .i64 a, .int .i64 0] w fun e w' => e = .returned (.tuple #[.int .i64 0, .int .i64 2]) ∧ w' = w := by
  go_enter Try.func72, Try.ntmps72
  go_wp2
  go_ret2
  exact ⟨rfl, rfl⟩
set_option maxHeartbeats 400000 in
theorem quotient_impl (a b : Int) (hb : b ≠ 0) (a1 : -1000000000000 ≤ a) (a2 : a ≤ 1000000000000) (b1 : -1000000000000 ≤ b) (b2 : b ≤ 1000000000000) (w : World) : Calls Try.prog 72 #[.int .i64 a, .int .i64 b] w fun e w' => e = .returned (.tuple #[.int .i64 (flo a b), .int .i64 0]) ∧ w' = w := by
  have hb' : (b == 0) = false := by simpa using hb
  go_enter Try.func72, Try.ntmps72
  go_wp2_with (go_at_call 84; refine (roundedDown_impl _ _ hb a1 a2 b1 b2 _).mono ?_; rintro e w' ⟨rfl, rfl⟩)
  go_ret2
  exact ⟨rfl, rfl⟩
set_option maxHeartbeats 400000 in
theorem remainder_impl0 (b : Int) (w : World) : Calls Try.prog 73 #[.int .i64 0, .int .i64 b] w fun e w' => e = .returned (.tuple #[.int .i64 b, .int .i64 0]) ∧ w' = w := by
  go_enter Try.func73, Try.ntmps73
  go_wp2
  go_ret2
  exact ⟨rfl, rfl⟩
set_option maxHeartbeats 400000 in
theorem remainder_impl (a b : Int) (ha : a ≠ 0) (a1 : -1000000000000 ≤ a) (a2 : a ≤ 1000000000000) (b1 : -1000000000000 ≤ b) (b2 : b ≤ 1000000000000) (w : World) : Calls Try.prog 73 #[.int .i64 a, .int .i64 b] w fun e w' => e = .returned (.tuple #[.int .i64 (rst b a), .int .i64 0]) ∧ w' = w := by
  have ha' : (a == 0) = false := by simpa using ha
  have he : Hid (b - a * flo b a = rst b a) := rst_eq b a
  have hr := rst_bd (a := b) ha a1 a2
  have p1 : -2000000000000 ≤ a * flo b a := by have := he.out; omega
  have p2 : a * flo b a ≤ 2000000000000 := by have := he.out; omega
  clear hr
  go_enter Try.func73, Try.ntmps73
  go_wp2_with (go_at_call 84; refine (roundedDown_impl _ _ ha b1 b2 a1 a2 _).mono ?_; rintro e w' ⟨rfl, rfl⟩)
  go_ret2
  exact ⟨ret_two he.out rfl, rfl⟩
set_option maxHeartbeats 400000 in
theorem product_impl1 (a b : Int) (a1 : -1000000000000 ≤ a) (a2 : a ≤ 1000000000000) (b1 : -1000000000000 ≤ b) (b2 : b ≤ 1000000000000) (h : 41 < bits a.natAbs + bits b.natAbs) (w : World) : Calls Try.prog 71 #[.int .i64 a, .int .i64 b] w fun e w' => e = .returned (.tuple #[.int .i64 0, .int .i64 6]) ∧ w' = w := by
  have A1 := bits_small (show a.natAbs ≤ 1000000000000 by omega)
  have A2 := bits_small (show b.natAbs ≤ 1000000000000 by omega)
  have h' : (40 : Int) < (bits a.natAbs : Int) + (bits b.natAbs : Int) - 1 := by omega
  go_enter Try.func71, Try.ntmps71
  go_wp2_with fail
  refine (digits_impl a a1 a2 _).mono ?_
  rintro e w' ⟨rfl, rfl⟩
  go_wp2_with fail
  refine (digits_impl b b1 b2 _).mono ?_
  rintro e w' ⟨rfl, rfl⟩
  go_wp2_with fail
  refine (digits_top _).mono ?_
  rintro e w' ⟨rfl, rfl⟩
  go_wp2
  go_ret2
  exact ⟨rfl, rfl⟩
set_option maxHeartbeats 400000 in
theorem product_impl2 (a b : Int) (a1 : -1000000000000 ≤ a) (a2 : a ≤ 1000000000000) (b1 : -1000000000000 ≤ b) (b2 : b ≤ 1000000000000) (h : bits a.natAbs + bits b.natAbs ≤ 41) (w : World) : Calls Try.prog 71 #[.int .i64 a, .int .i64 b] w fun e w' => e = .returned (.tuple #[.int .i64 (a * b), .int .i64 0]) ∧ w' = w := by
  have A1 := bits_small (show a.natAbs ≤ 1000000000000 by omega)
  have A2 := bits_small (show b.natAbs ≤ 1000000000000 by omega)
  have h' : ¬ (40 : Int) < (bits a.natAbs : Int) + (bits b.natAbs : Int) - 1 := by omega
  obtain ⟨p1, p2⟩ := prod_small h
  go_enter Try.func71, Try.ntmps71
  go_wp2_with fail
  refine (digits_impl a a1 a2 _).mono ?_
  rintro e w' ⟨rfl, rfl⟩
  go_wp2_with fail
  refine (digits_impl b b1 b2 _).mono ?_
  rintro e w' ⟨rfl, rfl⟩
  go_wp2_with fail
  refine (digits_top _).mono ?_
  rintro e w' ⟨rfl, rfl⟩
  go_wp2
  go_ret2
  exact ⟨rfl, rfl⟩

def cellsTwo : Array Value := #[.int .i64 43, .func (.func 69) #[] #[], .int .i64 45, .func (.func 70) #[] #[], .int .i64 42, .func (.func 71) #[] #[], .int .i64 37, .func (.func 72) #[] #[], .int .i64 124, .func (.func 73) #[] #[], .int .i64 38, .func (.func 74) #[] #[], .int .i64 94, .func (.func 75) #[] #[], .int .i64 61, .func (.func 76) #[] #[], .int .i64 60, .func (.func 77) #[] #[], .int .i64 62, .func (.func 78) #[] #[]]
def zerosTwo : Array Value := #[.int .i64 0, .nilFunc, .int .i64 0, .nilFunc, .int .i64 0, .nilFunc, .int .i64 0, .nilFunc, .int .i64 0, .nilFunc, .int .i64 0, .nilFunc, .int .i64 0, .nilFunc, .int .i64 0, .nilFunc, .int .i64 0, .nilFunc, .int .i64 0, .nilFunc]
def rulesTwo : Value := .agg cellsTwo
theorem cellsTwo_one : cellsTwo.all (·.oneCell') = true := by kernel_rfl
theorem modify_push {α : Type} (xs : Array α) (o p : α) (f : α → α) (hf : f o = p) : (xs.push o).modify xs.size f = xs.push p := by
  apply Array.ext
  · simp
  · intro i h1 h2
    rw [Array.getElem_modify]
    simp only [Array.getElem_push]
    by_cases e : i < xs.size
    · simp [e, show ¬ xs.size = i by omega]
    · have : xs.size = i := by simp at h2; omega
      simp [this, hf]
theorem setRow_alloc (w : World) (old cs : Array Value) (t : TypeId) : (w.alloc (.cells old t)).setRow w.heap.size cs = w.alloc (.cells cs t) := by
  unfold World.setRow
  rw [show (w.alloc (.cells old t)).heap = w.heap.push (.cells old t) from rfl, modify_push _ _ (.cells cs t) _ rfl]
  rfl
set_option maxHeartbeats 400000 in
theorem twoRules_impl (w : World) : Calls Try.prog 53 #[] w fun e w' => e = .returned rulesTwo ∧ ∃ c : Array Value, w' = w.alloc (.cells c 81) := by
  have hg : (w.alloc (.cells zerosTwo 81)).heap[w.heap.size]? = some (.cells zerosTwo 81 (0, 0)) := heap_alloc_new w _
  go_enter Try.func53, Try.ntmps53
  go_wp2_with (refine wpList_store_row rfl 81 _ _ rfl w.heap.size cellsTwo rfl rfl 81 zerosTwo hg (by kernel_rfl) rfl cellsTwo_one ?_)
  refine bodyPost_ret (v := rulesTwo) ?_ rfl ⟨rfl, cellsTwo, setRow_alloc _ _ _ _⟩
  exact results_cell_row Try.results53 _ _ w.heap.size 81 cellsTwo (0, 0) _ rfl (setRow_heap _ _ zerosTwo _ _ _ hg) Try.underlying81 rfl (by kernel_rfl)
theorem ixTwo0 (w : World) : (Instr.index 81 rulesTwo (.int .i64 0)).run Try.prog w = .ok (.agg #[.int .i64 43, .func (.func 69) #[] #[]]) w := by kernel_rfl
theorem ixTwo1 (w : World) : (Instr.index 81 rulesTwo (.int .i64 1)).run Try.prog w = .ok (.agg #[.int .i64 45, .func (.func 70) #[] #[]]) w := by kernel_rfl
theorem ixTwo2 (w : World) : (Instr.index 81 rulesTwo (.int .i64 2)).run Try.prog w = .ok (.agg #[.int .i64 42, .func (.func 71) #[] #[]]) w := by kernel_rfl
theorem ixTwo3 (w : World) : (Instr.index 81 rulesTwo (.int .i64 3)).run Try.prog w = .ok (.agg #[.int .i64 37, .func (.func 72) #[] #[]]) w := by kernel_rfl
theorem ixTwo4 (w : World) : (Instr.index 81 rulesTwo (.int .i64 4)).run Try.prog w = .ok (.agg #[.int .i64 124, .func (.func 73) #[] #[]]) w := by kernel_rfl
theorem ixTwo5 (w : World) : (Instr.index 81 rulesTwo (.int .i64 5)).run Try.prog w = .ok (.agg #[.int .i64 38, .func (.func 74) #[] #[]]) w := by kernel_rfl
theorem ixTwo6 (w : World) : (Instr.index 81 rulesTwo (.int .i64 6)).run Try.prog w = .ok (.agg #[.int .i64 94, .func (.func 75) #[] #[]]) w := by kernel_rfl
theorem ixTwo7 (w : World) : (Instr.index 81 rulesTwo (.int .i64 7)).run Try.prog w = .ok (.agg #[.int .i64 61, .func (.func 76) #[] #[]]) w := by kernel_rfl
theorem ixTwo8 (w : World) : (Instr.index 81 rulesTwo (.int .i64 8)).run Try.prog w = .ok (.agg #[.int .i64 60, .func (.func 77) #[] #[]]) w := by kernel_rfl
theorem ixTwo9 (w : World) : (Instr.index 81 rulesTwo (.int .i64 9)).run Try.prog w = .ok (.agg #[.int .i64 62, .func (.func 78) #[] #[]]) w := by kernel_rfl
end Go.Proofs.Ytdobohobhpailaa
namespace Go.Proofs.Ytdobohobhpailaa
open Go.RowKit
/-- The signs, by their places in the program's own table. -/
def sg (k : Nat) : Int := [43, 45, 42, 37, 124, 38, 94, 61, 60, 62].getD k 0
theorem sg_none {s : Int} (h : ∀ j, j < 10 → sg j ≠ s) : sign2 s = false := by
  have h0 := h 0 (by omega); have h1 := h 1 (by omega); have h2 := h 2 (by omega); have h3 := h 3 (by omega); have h4 := h 4 (by omega)
  have h5 := h 5 (by omega); have h6 := h 6 (by omega); have h7 := h 7 (by omega); have h8 := h 8 (by omega); have h9 := h 9 (by omega)
  simp [sg] at h0 h1 h2 h3 h4 h5 h6 h7 h8 h9
  simp [sign2]; omega
theorem sg_next {s : Int} {k : Nat} (h : ∀ j, j < k → sg j ≠ s) (hk : sg k ≠ s) : ∀ j, j < k + 1 → sg j ≠ s := by
  intro j hj
  by_cases e : j = k
  · subst e; exact hk
  · exact h j (by omega)
set_option maxHeartbeats 4000000 in
theorem two_right (s a b : Int) (a1 : -1000000000000 ≤ a) (a2 : a ≤ 1000000000000) (b1 : -1000000000000 ≤ b) (b2 : b ≤ 1000000000000) (w : World) :
    Calls Try.prog 31 #[.int .i64 s, .int .i64 a, .int .i64 b] w fun e w' => e = .returned (.tuple #[.int .i64 (twoV s a b).1, .int .i64 (twoV s a b).2]) ∧ Below w.heap.size w w' := by
  have ka := ok_mk a1 a2
  have kb := ok_mk b1 b2
  go_enter Try.func31, Try.ntmps31
  go_wp2_with (first | (go_at_call 52; refine (numOk_impl _ _).mono ?_; rintro e w' ⟨rfl, hw⟩; subst w') | (go_at_call 53; refine (twoRules_impl _).mono ?_; rintro e w' ⟨rfl, c, rfl⟩))
  go_loopw [21] (fun i w' => ∃ k : Nat, k ≤ 10 ∧ i = .int .i64 k ∧ (∀ j, j < k → sg j ≠ s) ∧ Below w.heap.size w w') (fun i _ => 10 - (intOf i).toNat)
  case atStart => exact ⟨0, by omega, rfl, by omega, bAlloc (Below.refl _ _) _⟩
  case round =>
    obtain ⟨k, hk, rfl, hs, hG⟩ := hrel
    have HS : Hid (∀ j, j < k → sg j ≠ s) := hs
    clear hs
    have hk11 : k = 0 ∨ k = 1 ∨ k = 2 ∨ k = 3 ∨ k = 4 ∨ k = 5 ∨ k = 6 ∨ k = 7 ∨ k = 8 ∨ k = 9 ∨ k = 10 := by omega
    rcases hk11 with rfl | rfl | rfl | rfl | rfl | rfl | rfl | rfl | rfl | rfl | rfl
    · have ik := ixTwo0
      by_cases e : s = 43
      · subst e
        go_wp2_with (first | (go_at_call 69; refine (sum_impl _ _ a1 a2 b1 b2 _).mono ?_; rintro e w' ⟨rfl, hw⟩; subst w') | (go_at_call 54; refine (rol_impl _ _).mono ?_; rintro e w' ⟨rfl, hw⟩; subst w'))
        go_ret2
        exact ⟨ret_two (by rw [twoV_43 ka kb]) (by rw [twoV_43 ka kb]), by repeat (first | exact hG | apply bAlloc)⟩
      · have en : ((43 : Int) == s) = false := by simp; omega
        clear e
        go_wp2
        go_roundw
        case rel => exact ⟨1, by omega, rfl, sg_next HS.out (by simp at en; simpa [sg] using en), by repeat (first | exact hG | apply bAlloc)⟩
        case measure => simp [intOf]
    · have ik := ixTwo1
      by_cases e : s = 45
      · subst e
        go_wp2_with (first | (go_at_call 70; refine (difference_impl _ _ a1 a2 b1 b2 _).mono ?_; rintro e w' ⟨rfl, hw⟩; subst w') | (go_at_call 54; refine (rol_impl _ _).mono ?_; rintro e w' ⟨rfl, hw⟩; subst w'))
        go_ret2
        exact ⟨ret_two (by rw [twoV_45 ka kb]) (by rw [twoV_45 ka kb]), by repeat (first | exact hG | apply bAlloc)⟩
      · have en : ((45 : Int) == s) = false := by simp; omega
        clear e
        go_wp2
        go_roundw
        case rel => exact ⟨2, by omega, rfl, sg_next HS.out (by simp at en; simpa [sg] using en), by repeat (first | exact hG | apply bAlloc)⟩
        case measure => simp [intOf]
    · have ik := ixTwo2
      by_cases e : s = 42
      · subst e
        by_cases p : bits a.natAbs + bits b.natAbs ≤ 41
        · go_wp2_with (first | (go_at_call 71; refine (product_impl2 _ _ a1 a2 b1 b2 p _).mono ?_; rintro e w' ⟨rfl, hw⟩; subst w') | (go_at_call 54; refine (rol_impl _ _).mono ?_; rintro e w' ⟨rfl, hw⟩; subst w'))
          go_ret2
          exact ⟨ret_two (by rw [twoV_42 ka kb]) (by rw [twoV_42 ka kb]), by repeat (first | exact hG | apply bAlloc)⟩
        · have hno := lim_no (prod_big (a := a) (b := b) (by omega) (by omega) (by omega))
          go_wp2_with (first | (go_at_call 71; refine (product_impl1 _ _ a1 a2 b1 b2 (by omega) _).mono ?_; rintro e w' ⟨rfl, hw⟩; subst w') | (go_at_call 54; refine (rol_code _ _ (by decide) _).mono ?_; rintro e w' ⟨rfl, hw⟩; subst w'))
          go_ret2
          exact ⟨ret_two (by rw [twoV_42 ka kb]; exact hno.1.symm) (by rw [twoV_42 ka kb]; exact hno.2.symm), by repeat (first | exact hG | apply bAlloc)⟩
      · have en : ((42 : Int) == s) = false := by simp; omega
        clear e
        go_wp2
        go_roundw
        case rel => exact ⟨3, by omega, rfl, sg_next HS.out (by simp at en; simpa [sg] using en), by repeat (first | exact hG | apply bAlloc)⟩
        case measure => simp [intOf]
    · have ik := ixTwo3
      by_cases e : s = 37
      · subst e
        by_cases p : b = 0
        · have PB : Hid (twoV 37 a b = (0, 2)) := twoV_37n ka kb p
          subst p
          go_wp2_with (first | (go_at_call 72; refine (quotient_impl0 _ _).mono ?_; rintro e w' ⟨rfl, hw⟩; subst w') | (go_at_call 54; refine (rol_code _ _ (by decide) _).mono ?_; rintro e w' ⟨rfl, hw⟩; subst w'))
          go_ret2
          exact ⟨ret_two (by rw [PB.out]) (by rw [PB.out]), by repeat (first | exact hG | apply bAlloc)⟩
        · go_wp2_with (first | (go_at_call 72; refine (quotient_impl _ _ p a1 a2 b1 b2 _).mono ?_; rintro e w' ⟨rfl, hw⟩; subst w') | (go_at_call 54; refine (rol_impl _ _).mono ?_; rintro e w' ⟨rfl, hw⟩; subst w'))
          go_ret2
          exact ⟨ret_two (by rw [twoV_37 ka kb p]) (by rw [twoV_37 ka kb p]), by repeat (first | exact hG | apply bAlloc)⟩
      · have en : ((37 : Int) == s) = false := by simp; omega
        clear e
        go_wp2
        go_roundw
        case rel => exact ⟨4, by omega, rfl, sg_next HS.out (by simp at en; simpa [sg] using en), by repeat (first | exact hG | apply bAlloc)⟩
        case measure => simp [intOf]
    · have ik := ixTwo4
      by_cases e : s = 124
      · subst e
        by_cases p : a = 0
        · subst p
          go_wp2_with (first | (go_at_call 73; refine (remainder_impl0 _ _).mono ?_; rintro e w' ⟨rfl, hw⟩; subst w') | (go_at_call 54; refine (rol_impl _ _).mono ?_; rintro e w' ⟨rfl, hw⟩; subst w'))
          go_ret2
          exact ⟨ret_two (by rw [twoV_124 ka kb, if_pos rfl]) (by rw [twoV_124 ka kb, if_pos rfl]), by repeat (first | exact hG | apply bAlloc)⟩
        · go_wp2_with (first | (go_at_call 73; refine (remainder_impl _ _ p a1 a2 b1 b2 _).mono ?_; rintro e w' ⟨rfl, hw⟩; subst w') | (go_at_call 54; refine (rol_impl _ _).mono ?_; rintro e w' ⟨rfl, hw⟩; subst w'))
          go_ret2
          exact ⟨ret_two (by rw [twoV_124 ka kb, if_neg p]) (by rw [twoV_124 ka kb, if_neg p]), by repeat (first | exact hG | apply bAlloc)⟩
      · have en : ((124 : Int) == s) = false := by simp; omega
        clear e
        go_wp2
        go_roundw
        case rel => exact ⟨5, by omega, rfl, sg_next HS.out (by simp at en; simpa [sg] using en), by repeat (first | exact hG | apply bAlloc)⟩
        case measure => simp [intOf]
    · have ik := ixTwo5
      by_cases e : s = 38
      · subst e
        go_wp2_with (first | (go_at_call 74; refine (lesser_impl _ _ _).mono ?_; rintro e w' ⟨rfl, hw⟩; subst w') | (go_at_call 54; refine (rol_impl _ _).mono ?_; rintro e w' ⟨rfl, hw⟩; subst w'))
        go_ret2
        exact ⟨ret_two (by rw [twoV_38 ka kb]) (by rw [twoV_38 ka kb]), by repeat (first | exact hG | apply bAlloc)⟩
      · have en : ((38 : Int) == s) = false := by simp; omega
        clear e
        go_wp2
        go_roundw
        case rel => exact ⟨6, by omega, rfl, sg_next HS.out (by simp at en; simpa [sg] using en), by repeat (first | exact hG | apply bAlloc)⟩
        case measure => simp [intOf]
    · have ik := ixTwo6
      by_cases e : s = 94
      · subst e
        go_wp2_with (first | (go_at_call 75; refine (greater_impl _ _ _).mono ?_; rintro e w' ⟨rfl, hw⟩; subst w') | (go_at_call 54; refine (rol_impl _ _).mono ?_; rintro e w' ⟨rfl, hw⟩; subst w'))
        go_ret2
        exact ⟨ret_two (by rw [twoV_94 ka kb]) (by rw [twoV_94 ka kb]), by repeat (first | exact hG | apply bAlloc)⟩
      · have en : ((94 : Int) == s) = false := by simp; omega
        clear e
        go_wp2
        go_roundw
        case rel => exact ⟨7, by omega, rfl, sg_next HS.out (by simp at en; simpa [sg] using en), by repeat (first | exact hG | apply bAlloc)⟩
        case measure => simp [intOf]
    · have ik := ixTwo7
      by_cases e : s = 61
      · subst e
        go_wp2_with (first | (go_at_call 76; refine (isEqual_impl _ _ _).mono ?_; rintro e w' ⟨rfl, hw⟩; subst w') | (go_at_call 54; refine (rol_impl _ _).mono ?_; rintro e w' ⟨rfl, hw⟩; subst w'))
        go_ret2
        exact ⟨ret_two (by rw [twoV_61 ka kb]) (by rw [twoV_61 ka kb]), by repeat (first | exact hG | apply bAlloc)⟩
      · have en : ((61 : Int) == s) = false := by simp; omega
        clear e
        go_wp2
        go_roundw
        case rel => exact ⟨8, by omega, rfl, sg_next HS.out (by simp at en; simpa [sg] using en), by repeat (first | exact hG | apply bAlloc)⟩
        case measure => simp [intOf]
    · have ik := ixTwo8
      by_cases e : s = 60
      · subst e
        go_wp2_with (first | (go_at_call 77; refine (isBelow_impl _ _ _).mono ?_; rintro e w' ⟨rfl, hw⟩; subst w') | (go_at_call 54; refine (rol_impl _ _).mono ?_; rintro e w' ⟨rfl, hw⟩; subst w'))
        go_ret2
        exact ⟨ret_two (by rw [twoV_60 ka kb]) (by rw [twoV_60 ka kb]), by repeat (first | exact hG | apply bAlloc)⟩
      · have en : ((60 : Int) == s) = false := by simp; omega
        clear e
        go_wp2
        go_roundw
        case rel => exact ⟨9, by omega, rfl, sg_next HS.out (by simp at en; simpa [sg] using en), by repeat (first | exact hG | apply bAlloc)⟩
        case measure => simp [intOf]
    · have ik := ixTwo9
      by_cases e : s = 62
      · subst e
        go_wp2_with (first | (go_at_call 78; refine (isAbove_impl _ _ _).mono ?_; rintro e w' ⟨rfl, hw⟩; subst w') | (go_at_call 54; refine (rol_impl _ _).mono ?_; rintro e w' ⟨rfl, hw⟩; subst w'))
        go_ret2
        exact ⟨ret_two (by rw [twoV_62 ka kb]) (by rw [twoV_62 ka kb]), by repeat (first | exact hG | apply bAlloc)⟩
      · have en : ((62 : Int) == s) = false := by simp; omega
        clear e
        go_wp2
        go_roundw
        case rel => exact ⟨10, by omega, rfl, sg_next HS.out (by simp at en; simpa [sg] using en), by repeat (first | exact hG | apply bAlloc)⟩
        case measure => simp [intOf]
    · go_wp2
      go_ret2
      exact ⟨ret_two (by rw [twoV_none (sg_none HS.out)]) (by rw [twoV_none (sg_none HS.out)]), hG⟩
set_option maxHeartbeats 1000000 in
theorem two_implBad (s a b : Int) (h : ok a = false ∨ ok b = false) (w : World) :
    Calls Try.prog 31 #[.int .i64 s, .int .i64 a, .int .i64 b] w fun e w' => e = .returned (.tuple #[.int .i64 0, .int .i64 1]) ∧ Below w.heap.size w w' := by
  by_cases ha : ok a = true
  · have hb : ok b = false := by simpa [ha] using h
    clear h
    go_enter Try.func31, Try.ntmps31
    go_wp2_with (go_at_call 52; refine (numOk_impl _ _).mono ?_; rintro e w' ⟨rfl, hw⟩; subst w')
    go_ret2
    exact ⟨rfl, Below.refl _ _⟩
  · have ha : ok a = false := by simpa using ha
    clear h
    go_enter Try.func31, Try.ntmps31
    go_wp2_with (go_at_call 52; refine (numOk_impl _ _).mono ?_; rintro e w' ⟨rfl, hw⟩; subst w')
    go_ret2
    exact ⟨rfl, Below.refl _ _⟩
/-- The program's Two, whatever it is given. -/
theorem two_impl (s a b : Int) (w : World) :
    Calls Try.prog 31 #[.int .i64 s, .int .i64 a, .int .i64 b] w fun e w' => e = .returned (.tuple #[.int .i64 (twoV s a b).1, .int .i64 (twoV s a b).2]) ∧ Below w.heap.size w w' := by
  by_cases ha : ok a = true
  · by_cases hb : ok b = true
    · obtain ⟨a1, a2⟩ := ok_bd ha
      obtain ⟨b1, b2⟩ := ok_bd hb
      exact two_right s a b a1 a2 b1 b2 w
    · have hb : ok b = false := by simpa using hb
      rw [twoV_bad (.inr hb)]; exact two_implBad s a b (.inr hb) w
  · have ha : ok a = false := by simpa using ha
    rw [twoV_bad (.inl ha)]; exact two_implBad s a b (.inl ha) w
end Go.Proofs.Ytdobohobhpailaa
namespace Go.Proofs.Ytdobohobhpailaa
open Go.RowKit
set_option linter.unusedVariables false
set_option linter.unusedSimpArgs false
set_option maxRecDepth 20000 in
set_option maxHeartbeats 1000000 in
/-- numberFor. -/
theorem numberFor_impl {s d : List Int} {w : World} {v : Value} (i : Nat) (h : ArrI w v s d) (h0 : s = [] → 0 < d.length) (h1 : s ≠ [] → i < d.length) (hd : d.length ≤ 1048576) :
    Calls Try.prog 79 #[v, .int .i64 (i : Int)] w fun r w' => r = .returned (.int .i64 (numOf s d i)) ∧ Below w.heap.size w w' := by
  obtain ⟨a, c, b, f, rfl, i1, i2, _, _⟩ := h
  by_cases e : s = []
  · subst e
    have E : Hid (numOf [] d i = d.getD 0 0) := by show _ = _; unfold numOf; rw [if_pos rfl]
    obtain ⟨b1, o1, rfl, hb1, c1⟩ := i2.at (h0 rfl)
    rw [Nat.add_zero] at c1
    have c2 : ∀ O : Obj, (w.alloc O).cell? ⟨b1, o1, none⟩ = some (.int .i64 (d.getD 0 0)) := fun O => ((bAlloc (Below.refl _ _) O).cell (p := ⟨b1, o1, none⟩) hb1).trans c1
    have hl : (0 : Int) < (d.length : Int) := by have := h0 rfl; omega
    generalize d.getD 0 0 = x at *
    clear i1 i2 h0 h1 c1
    go_enter Try.func79, Try.ntmps79
    go_wp2
    go_ret
    exact ⟨by rw [E.out]; rfl, bAlloc (Below.refl _ _) _⟩
  · have E : Hid (numOf s d i = d.getD i 0) := by show _ = _; unfold numOf; rw [if_neg e]
    obtain ⟨b1, o1, rfl, hb1, c1⟩ := i2.at (h1 e)
    have c2 : ∀ O : Obj, (w.alloc O).cell? ⟨b1, o1 + i, none⟩ = some (.int .i64 (d.getD i 0)) := fun O => ((bAlloc (Below.refl _ _) O).cell (p := ⟨b1, o1 + i, none⟩) hb1).trans c1
    have hl : (i : Int) < (d.length : Int) := by have := h1 e; omega
    have n1 : ((s.length : Int) == 0) = false := by
      have := List.length_pos_iff.2 e
      simp; omega
    generalize d.getD i 0 = x at *
    clear i1 i2 h0 h1 c1 e
    go_enter Try.func79, Try.ntmps79
    go_wp2
    go_ret
    exact ⟨by rw [E.out]; rfl, bAlloc (Below.refl _ _) _⟩
theorem known1 (g : Int) : ((oneV g 0).2 != 1) = sign1 g := by
  by_cases h : sign1 g = true
  · rcases sign1_of h with rfl | rfl | rfl | rfl | rfl <;> decide
  · have h : sign1 g = false := by simpa using h
    rw [oneV_none h, h]; rfl
theorem known2 (g : Int) : ((twoV g 0 0).2 != 1) = sign2 g := by
  by_cases h : sign2 g = true
  · rcases sign2_of h with rfl | rfl | rfl | rfl | rfl | rfl | rfl | rfl | rfl | rfl <;> decide
  · have h : sign2 g = false := by simpa using h
    rw [twoV_none h, h]; rfl
set_option maxHeartbeats 1000000 in
/-- knownToTwo. -/
theorem knownTwo_impl (g : Int) (w : World) :
    Calls Try.prog 28 #[.int .i64 g] w fun r w' => r = .returned (.bool (sign2 g)) ∧ Below w.heap.size w w' := by
  have K : Hid (((twoV g 0 0).2 != 1) = sign2 g) := known2 g
  have HV : Hid (∀ W, Calls Try.prog 31 #[.int .i64 g, .int .i64 0, .int .i64 0] W fun e w' => e = .returned (.tuple #[.int .i64 (twoV g 0 0).1, .int .i64 (twoV g 0 0).2]) ∧ Below W.heap.size W w') := fun W => two_impl g 0 0 W
  generalize (twoV g 0 0).1 = x at *
  generalize (twoV g 0 0).2 = y at *
  go_enter Try.func28, Try.ntmps28
  go_wp2_with fail
  refine (HV.out _).mono ?_
  rintro r w1 ⟨rfl, hb⟩
  have HB : Hid (Below w.heap.size w w1) := hb
  clear hb
  go_wp2
  go_ret
  exact ⟨by rw [← K.out]; rfl, HB.out⟩
set_option maxRecDepth 20000 in
set_option maxHeartbeats 1000000 in
/-- What EachTwo does at a place. -/
theorem does2_impl {g x y : Int} {w : World} {a : Option Addr} {q c : Nat} (h : Ints w a [x, y]) (hq : w.cell? ⟨q, 0, none⟩ = some (.int .i64 g)) :
    Calls Try.prog 30 #[.slice a 2 c, .pointer (some ⟨q, 0, none⟩)] w fun r w' => r = .returned (.tuple #[.int .i64 (twoV g x y).1, .int .i64 (twoV g x y).2]) ∧ Below w.heap.size w w' := by
  obtain ⟨b1, o1, rfl, hb1, c1⟩ := h.at (k := 0) (by simp)
  obtain ⟨b2, o2, e2, _, c2⟩ := h.at (k := 1) (by simp)
  cases e2
  have x0 : w.cell? ⟨b1, o1, none⟩ = some (.int .i64 x) := by simpa using c1
  have x1 : w.cell? ⟨b1, o1 + 1, none⟩ = some (.int .i64 y) := by simpa using c2
  have HV : Hid (∀ W, Calls Try.prog 31 #[.int .i64 g, .int .i64 x, .int .i64 y] W fun e w' => e = .returned (.tuple #[.int .i64 (twoV g x y).1, .int .i64 (twoV g x y).2]) ∧ Below W.heap.size W w') := fun W => two_impl g x y W
  clear c1 c2 h
  generalize (twoV g x y).1 = u at *
  generalize (twoV g x y).2 = z at *
  go_enter Try.func30, Try.ntmps30
  go_wp2
  first
    | go_region_with (go_at_call 31; refine (HV.out _).mono ?_; rintro r w1 ⟨rfl, hb⟩; have HB1 : Hid (Below w.heap.size w w1) := bTrans ((Below.refl w.heap.size w).drew) hb; clear hb)
    | fail "no"
  all_goals
    go_wp2
    go_ret2
    exact ⟨rfl, HB1.out⟩
end Go.Proofs.Ytdobohobhpailaa
namespace Go.Proofs.Ytdobohobhpailaa
open Go.RowKit
set_option linter.unusedVariables false
set_option linter.unusedSimpArgs false
theorem piece_setN {B C g c k n : Nat} {w : World} {l : List Int} (h : Piece B C w (.slice (some ⟨g, 0, none⟩) n c) l) (hl : l.length = n) (hk : k < n) (x : Int) : Piece B C (w.setCell ⟨g, k, none⟩ (.int .i64 x)) (.slice (some ⟨g, 0, none⟩) n c) (l.set k x) := by
  subst hl
  have := h.set hk x
  simpa using this
/-- What stands while eachPlace goes on: what was there, the list that is made, the numbers of a place. -/
structure PlaceAt (w wr : World) (n m : Nat) (l x : List Int) : Prop where
  below : Below w.heap.size w wr
  list : Piece w.heap.size (w.heap.size + 1) wr (.slice (some ⟨w.heap.size, 0, none⟩) n n) l
  nums : Piece (w.heap.size + 1) (w.heap.size + 2) wr (.slice (some ⟨w.heap.size + 1, 0, none⟩) m m) x
  size : w.heap.size + 2 ≤ wr.heap.size
  llen : l.length = n
  xlen : x.length = m
theorem PlaceAt.keep {w wr w' : World} {n m : Nat} {l x : List Int} (h : PlaceAt w wr n m l x) (hb : Below wr.heap.size wr w') : PlaceAt w w' n m l x :=
  ⟨h.below.trans (hb.mono h.below.size), h.list.keep hb, h.nums.keep hb, Nat.le_trans h.size hb.size, h.llen, h.xlen⟩
theorem PlaceAt.setX {w wr : World} {n m j : Nat} {l x : List Int} (h : PlaceAt w wr n m l x) (hj : j < m) (z : Int) : PlaceAt w (wr.setCell ⟨w.heap.size + 1, j, none⟩ (.int .i64 z)) n m l (x.set j z) :=
  ⟨below_setCell h.below (by omega) _ _, h.list.win (win_setCell _ _ _ _) (.inl (Nat.le_refl _)), piece_setN h.nums h.xlen hj z, by rw [size_setCell]; exact h.size, h.llen, by rw [List.length_set]; exact h.xlen⟩
theorem PlaceAt.setL {w wr : World} {n m j : Nat} {l x : List Int} (h : PlaceAt w wr n m l x) (hj : j < n) (z : Int) : PlaceAt w (wr.setCell ⟨w.heap.size, j, none⟩ (.int .i64 z)) n m (l.set j z) x :=
  ⟨below_setCell h.below (Nat.le_refl _) _ _, piece_setN h.list h.llen hj z, h.nums.win (win_setCell _ _ _ _) (.inr (Nat.le_refl _)), by rw [size_setCell]; exact h.size, by rw [List.length_set]; exact h.llen, h.xlen⟩
theorem PlaceAt.start (w : World) (n m : Nat) : PlaceAt w ((w.alloc (.cells (vals (List.replicate n 0)) 3)).alloc (.cells (vals (List.replicate m 0)) 3)) n m (List.replicate n 0) (List.replicate m 0) := by
  have p1 : Piece w.heap.size (w.heap.size + 1) (w.alloc (.cells (vals (List.replicate n 0)) 3)) (.slice (some ⟨w.heap.size, 0, none⟩) n n) (List.replicate n 0) := by
    have := OwnInts.piece (ownInts_new w (List.replicate n 0)) (B := w.heap.size) (C := w.heap.size + 1) (Nat.le_refl _) (Nat.lt_succ_self _) n
    simpa using this
  have p2 : Piece (w.heap.size + 1) (w.heap.size + 2) ((w.alloc (.cells (vals (List.replicate n 0)) 3)).alloc (.cells (vals (List.replicate m 0)) 3)) (.slice (some ⟨w.heap.size + 1, 0, none⟩) m m) (List.replicate m 0) := by
    have := OwnInts.piece (ownInts_new (w.alloc (.cells (vals (List.replicate n 0)) 3)) (List.replicate m 0)) (B := w.heap.size + 1) (C := w.heap.size + 2) (by simp) (by simp) m
    simpa using this
  exact ⟨bAlloc (bAlloc (Below.refl _ _) _) _, p1.keep (bAlloc (Below.refl _ _) _), p2, by simp, by simp, by simp⟩
/-- The numbers of a place. -/
def numsAt (F : List (List Int)) (m k : Nat) : List Int := (List.range m).map fun i => numOf (F.getD (2 * i) []) (F.getD (2 * i + 1) []) k
theorem numsAt_set {F : List (List Int)} {m k j : Nat} {x : List Int} (hx : ∀ q, q < j → x.getD q 0 = numOf (F.getD (2 * q) []) (F.getD (2 * q + 1) []) k) (hj : j < x.length) : ∀ q, q < j + 1 → (x.set j (numOf (F.getD (2 * j) []) (F.getD (2 * j + 1) []) k)).getD q 0 = numOf (F.getD (2 * q) []) (F.getD (2 * q + 1) []) k := by
  intro q hq
  by_cases e : q = j
  · subst e; simp [hj]
  · have := hx q (by omega)
    simp only [List.getD_eq_getElem?_getD] at this ⊢
    rw [List.getElem?_set_ne (by omega)]
    exact this
theorem numsAt_eq {F : List (List Int)} {m k : Nat} {x : List Int} (hl : x.length = m) (hx : ∀ q, q < m → x.getD q 0 = numOf (F.getD (2 * q) []) (F.getD (2 * q + 1) []) k) : x = numsAt F m k := by
  apply List.ext_getElem
  · simp [numsAt, hl]
  · intro q h1 h2
    have := hx q (by omega)
    simp only [numsAt, List.getElem_map, List.getElem_range]
    rw [← this]
    simp [h1]
/-- What eachPlace answers. -/
def placesC (V : Nat → Int × Int) (n : Nat) : Int := firstC (fun i => (V i).2) n
def placesD (V : Nat → Int × Int) (n : Nat) : List Int := if placesC V n = 0 then (List.range n).map (fun i => (V i).1) else []
set_option maxRecDepth 20000 in
set_option maxHeartbeats 4000000 in
/-- eachPlace. -/
theorem eachPlace_impl {F : List (List Int)} {V : Nat → Int × Int} {w : World} {f n m ca : Nat} {aa : Option Addr} {p : Value}
    (hE : ∀ (args : Array Value) (w : World), (callFunc f args).run Try.prog w = .ok (.enter f args) w) (hA : ArrsI w (.slice aa m ca) F) (hm : m ≤ 2) (hn : n ≤ 300) (hL : ∀ j, (F.getD j []).length ≤ 1048576)
    (hN : ∀ i, i < m → (F.getD (2 * i) [] = [] → 0 < (F.getD (2 * i + 1) []).length) ∧ (F.getD (2 * i) [] ≠ [] → n ≤ (F.getD (2 * i + 1) []).length))
    (hV : ∀ (W : World) (A k : Nat), k < n → Below w.heap.size w W → Ints W (some ⟨A, 0, none⟩) (numsAt F m k) → Calls Try.prog f #[.slice (some ⟨A, 0, none⟩) m m, p] W fun r W' => r = .returned (.tuple #[.int .i64 (V k).1, .int .i64 (V k).2]) ∧ Below W.heap.size W W') :
    Calls Try.prog 55 #[.int .i64 (n : Int), .func (.func f) #[] #[p], .slice aa m ca] w fun r w' => ∃ a' c', r = .returned (.tuple #[.slice a' (placesD V n).length c', .int .i64 (placesC V n)]) ∧ Piece w.heap.size w'.heap.size w' (.slice a' (placesD V n).length c') (placesD V n) ∧ Below w.heap.size w w' := by
  have HA : Hid (ArrsI w (.slice aa m ca) F) := hA
  have HL : Hid (∀ j, (F.getD j []).length ≤ 1048576) := hL
  have HN : Hid (∀ i, i < m → (F.getD (2 * i) [] = [] → 0 < (F.getD (2 * i + 1) []).length) ∧ (F.getD (2 * i) [] ≠ [] → n ≤ (F.getD (2 * i + 1) []).length)) := hN
  have HV : Hid (∀ (W : World) (A k : Nat), k < n → Below w.heap.size w W → Ints W (some ⟨A, 0, none⟩) (numsAt F m k) → Calls Try.prog f #[.slice (some ⟨A, 0, none⟩) m m, p] W fun r W' => r = .returned (.tuple #[.int .i64 (V k).1, .int .i64 (V k).2]) ∧ Below W.heap.size W W') := hV
  have hmk1 : ∀ w, (Instr.makeSlice 24 (.int .i64 (n : Int)) (.int .i64 (n : Int))).run Try.prog w = .ok (.slice (some ⟨w.heap.size, 0, none⟩) n n) (w.alloc (.cells (vals (List.replicate n 0)) 3)) := fun w => make_ints n (by omega) w
  have hmk2 : ∀ w, (Instr.makeSlice 24 (.int .i64 (m : Int)) (.int .i64 (m : Int))).run Try.prog w = .ok (.slice (some ⟨w.heap.size, 0, none⟩) m m) (w.alloc (.cells (vals (List.replicate m 0)) 3)) := fun w => make_ints m (by omega) w
  obtain ⟨C, hC⟩ : ∃ C, C = placesC V n := ⟨_, rfl⟩
  obtain ⟨D, hD⟩ : ∃ D, D = placesD V n := ⟨_, rfl⟩
  have HC : Hid (C = firstC (fun i => (V i).2) n) := hC
  have HBAD : Hid (C ≠ 0 → D = []) := fun h => by rw [hD]; unfold placesD; rw [if_neg (by rw [← hC]; exact h)]
  have HGOOD : Hid (C = 0 → D = (List.range n).map (fun i => (V i).1)) := fun h => by rw [hD]; unfold placesD; rw [if_pos (by rw [← hC]; exact h)]
  rw [← hC, ← hD]
  clear hA hL hN hV hC hD
  go_enter Try.func55, Try.ntmps55
  go_wp2
  generalize hW : (w.alloc (.cells (vals (List.replicate n 0)) 3)).alloc (.cells (vals (List.replicate m 0)) 3) = W0
  have P0 : Hid (PlaceAt w W0 n m (List.replicate n 0) (List.replicate m 0)) := by rw [← hW]; exact PlaceAt.start w n m
  clear hW hmk1 hmk2
  go_loopw [22] (fun i w' => ∃ (k : Nat) (l x : List Int), k ≤ n ∧ i = .int .i64 (k : Int) ∧ firstC (fun i => (V i).2) k = 0 ∧ l = setTo (fun i => (V i).1) (List.replicate n 0) k ∧ PlaceAt w w' n m l x) (fun i _ => n - (intOf i).toNat)
  case atStart => exact ⟨0, _, _, by omega, rfl, rfl, by rw [setTo_zero], P0.out⟩
  case round =>
    obtain ⟨k, l, x, hk, rfl, hf, hl, hP⟩ := hrel
    have HF : Hid (firstC (fun i => (V i).2) k = 0) := hf
    have HLL : Hid (l = setTo (fun i => (V i).1) (List.replicate n 0) k) := hl
    have HP : Hid (PlaceAt w wr n m l x) := hP
    clear hf hl hP P0
    by_cases hlt : (k : Int) < (n : Int)
    · go_wp2
      go_loopw [27] (fun i w' => ∃ (j : Nat) (x : List Int), j ≤ m ∧ i = .int .i64 (j : Int) ∧ (∀ q, q < j → x.getD q 0 = numOf (F.getD (2 * q) []) (F.getD (2 * q + 1) []) k) ∧ PlaceAt w w' n m l x) (fun i _ => m - (intOf i).toNat)
      case atStart => exact ⟨0, x, by omega, rfl, by intro q hq; omega, HP.out⟩
      case round =>
        obtain ⟨j, x1, hj, rfl, hx, hP⟩ := hrel
        have HX : Hid (∀ q, q < j → x1.getD q 0 = numOf (F.getD (2 * q) []) (F.getD (2 * q + 1) []) k) := hx
        have HP1 : Hid (PlaceAt w wr n m l x1) := hP
        clear hx hP HP
        by_cases hjm : (j : Int) < (m : Int)
        · obtain ⟨o, off, sx, sy, rfl, ho, p0, p1, i0, i1⟩ := (HA.out.keep HP1.out.below).at (k := j) (by omega)
          obtain ⟨ax, cx, rfl, gix, ix⟩ := i0
          obtain ⟨ay, cy, rfl, giy, iy⟩ := i1
          have A1 : Hid (ArrI wr (.agg #[.slice ax (F.getD (2 * j) []).length cx, .slice ay (F.getD (2 * j + 1) []).length cy]) (F.getD (2 * j) []) (F.getD (2 * j + 1) [])) := ⟨_, _, _, _, rfl, ix, iy, gix, giy⟩
          obtain ⟨q1, q2⟩ := HN.out j (by omega)
          have HF1 : Hid (∀ W, Below wr.heap.size wr W → Calls Try.prog 79 #[.agg #[.slice ax (F.getD (2 * j) []).length cx, .slice ay (F.getD (2 * j + 1) []).length cy], .int .i64 (k : Int)] W fun r w' => r = .returned (.int .i64 (numOf (F.getD (2 * j) []) (F.getD (2 * j + 1) []) k)) ∧ Below W.heap.size W w') := fun W h => numberFor_impl k (A1.out.keep h) q1 (fun h => Nat.lt_of_lt_of_le (by omega) (q2 h)) (HL.out _)
          have HX1 : Hid (∀ q, q < j + 1 → (x1.set j (numOf (F.getD (2 * j) []) (F.getD (2 * j + 1) []) k)).getD q 0 = numOf (F.getD (2 * q) []) (F.getD (2 * q + 1) []) k) := numsAt_set (m := m) HX.out (by rw [HP1.out.xlen]; omega)
          clear ix iy gix giy q1 q2
          generalize (F.getD (2 * j) []).length = ls at *
          generalize (F.getD (2 * j + 1) []).length = ld at *
          generalize numOf (F.getD (2 * j) []) (F.getD (2 * j + 1) []) k = z at *
          go_wp2_with fail
          refine (HF1.out _ (bAlloc (Below.refl _ _) _)).mono ?_
          rintro r w2 ⟨rfl, hb⟩
          have P2 : Hid (PlaceAt w w2 n m l x1) := HP1.out.keep (bTrans (bAlloc (Below.refl _ _) _) hb)
          obtain ⟨t1, t2, _, _, _⟩ := P2.out.nums.cellAt (k := j) (by rw [P2.out.xlen]; omega)
          rw [Nat.zero_add] at t1 t2
          clear hb
          generalize x1.getD j 0 = x2 at t1
          go_wp2
          go_roundw
          case rel => exact ⟨j + 1, _, by omega, by go_num, HX1.out, P2.out.setX (by omega) z⟩
          case measure => simp [intOf]; omega
        · obtain rfl : j = m := by omega
          have HX1 : Hid (x1 = numsAt F j k) := numsAt_eq HP1.out.xlen HX.out
          have HIN : Hid (Ints wr (some ⟨w.heap.size + 1, 0, none⟩) (numsAt F j k)) := by
            obtain ⟨a', c', e', i'⟩ := HP1.out.nums.ints
            cases e'
            rw [← HX1.out]; exact i'
          have HV1 : Hid (Calls Try.prog f #[.slice (some ⟨w.heap.size + 1, 0, none⟩) j j, p] wr fun r W' => r = .returned (.tuple #[.int .i64 (V k).1, .int .i64 (V k).2]) ∧ Below wr.heap.size wr W') := HV.out wr _ k (by omega) HP1.out.below HIN.out
          have E1 : Hid ((V k).2 = 0 → firstC (fun i => (V i).2) (k + 1) = 0) := fun h => firstC_go HF.out h
          have E2 : Hid ((V k).2 ≠ 0 → C = (V k).2) := fun h => by rw [HC.out]; exact firstC_stop HF.out h (by omega)
          have E3 : Hid (l.set k (V k).1 = setTo (fun i => (V i).1) (List.replicate n 0) (k + 1)) := by show _ = _; rw [HLL.out]; exact setTo_set (fun i => (V i).1) _ (by simp; omega)
          clear HX HX1 HIN
          generalize (V k).1 = y at *
          generalize (V k).2 = z at *
          by_cases h0 : z = 0
          · subst h0
            have E1' : Hid (firstC (fun i => (V i).2) (k + 1) = 0) := E1.out rfl
            go_wp2_with (go_at_fn f; refine HV1.out.mono ?_; rintro r w2 ⟨rfl, hb⟩; have P2 : Hid (PlaceAt w w2 n j l x1) := HP1.out.keep hb; obtain ⟨t1, t2, _, _, _⟩ := P2.out.list.cellAt (k := k) (by rw [P2.out.llen]; omega); rw [Nat.zero_add] at t1 t2; clear hb; generalize l.getD k 0 = x2 at t1)
            go_roundw
            case rel => exact ⟨k + 1, _, _, by omega, by go_num, E1'.out, E3.out, P2.out.setL (by omega) y⟩
            case measure => simp [intOf]; omega
          · have hne : (z != 0) = true := by simpa using h0
            have EC : Hid (C = z) := E2.out h0
            have ED : Hid (D = []) := HBAD.out (by rw [EC.out]; exact h0)
            clear h0
            go_wp2_with (go_at_fn f; refine HV1.out.mono ?_; rintro r w2 ⟨rfl, hb⟩; have B2 : Hid (Below w.heap.size w w2) := (HP1.out.keep hb).below; clear hb)
            go_ret2
            refine ⟨none, 0, by rw [EC.out, ED.out]; rfl, ?_, B2.out⟩
            rw [ED.out]; exact Piece.nil _ _ _
    · obtain rfl : k = n := by omega
      have EC : Hid (C = 0) := by show _ = _; rw [HC.out, HF.out]
      have ED : Hid (D = l) := by show _ = _; rw [HGOOD.out EC.out, HLL.out, setTo_all _ _ (by simp)]
      have EL : Hid (D.length = k) := by show _ = _; rw [ED.out]; exact HP.out.llen
      go_wp2
      go_ret2
      refine ⟨some ⟨w.heap.size, 0, none⟩, k, by rw [EC.out, EL.out]; rfl, ?_, HP.out.below⟩
      rw [EL.out, ED.out]
      exact HP.out.list.mono (Nat.le_refl _) (by have := HP.out.size; omega)
end Go.Proofs.Ytdobohobhpailaa
namespace Go.Proofs.Ytdobohobhpailaa
open Go.RowKit
set_option linter.unusedVariables false
set_option linter.unusedSimpArgs false
set_option maxRecDepth 20000 in
set_option maxHeartbeats 4000000 in
/-- filled. -/
theorem filled_impl {F : List (List Int)} {V : Nat → Int × Int} {w : World} {f n m ca B E sc : Nat} {aa sa : Option Addr} {p : Value} {S : List Int}
    (hE : ∀ (args : Array Value) (w : World), (callFunc f args).run Try.prog w = .ok (.enter f args) w) (hA : ArrsI w (.slice aa m ca) F) (hm : m ≤ 2) (hn : n ≤ 300) (hL : ∀ j, (F.getD j []).length ≤ 1048576)
    (hN : ∀ i, i < m → (F.getD (2 * i) [] = [] → 0 < (F.getD (2 * i + 1) []).length) ∧ (F.getD (2 * i) [] ≠ [] → n ≤ (F.getD (2 * i + 1) []).length))
    (hV : ∀ (W : World) (A k : Nat), k < n → Below w.heap.size w W → Ints W (some ⟨A, 0, none⟩) (numsAt F m k) → Calls Try.prog f #[.slice (some ⟨A, 0, none⟩) m m, p] W fun r W' => r = .returned (.tuple #[.int .i64 (V k).1, .int .i64 (V k).2]) ∧ Below W.heap.size W W')
    (hS : Piece B E w (.slice sa S.length sc) S) (hBE : B ≤ E) (hEw : E ≤ w.heap.size) (hz : sizeV S = (n : Int)) :
    Calls Try.prog 32 #[.slice sa S.length sc, .func (.func f) #[] #[p], .slice aa m ca] w fun r w' => ∃ v', r = .returned (.tuple #[v', .int .i64 (placesC V n)]) ∧ Arr B w'.heap.size w' v' (if placesC V n = 0 then S else []) (placesD V n) ∧ Below w.heap.size w w' := by
  have HI : Hid (Ints w sa S) := by
    obtain ⟨a', c', e', i'⟩ := hS.ints
    cases e'
    exact i'
  have HS : Hid (Piece B E w (.slice sa S.length sc) S) := hS
  have HSZ : Hid (∀ W, Ints W sa S → Calls Try.prog 56 #[.slice sa S.length sc] W fun e w' => e = .returned (.int .i64 (n : Int)) ∧ Below W.heap.size W w') := fun W h => by
    have := size_impl sc h
    rw [hz] at this
    exact this
  have HEP : Hid (∀ W, Below w.heap.size w W → Calls Try.prog 55 #[.int .i64 (n : Int), .func (.func f) #[] #[p], .slice aa m ca] W fun r w' => ∃ a' c', r = .returned (.tuple #[.slice a' (placesD V n).length c', .int .i64 (placesC V n)]) ∧ Piece W.heap.size w'.heap.size w' (.slice a' (placesD V n).length c') (placesD V n) ∧ Below W.heap.size W w') :=
    fun W h => eachPlace_impl hE (hA.keep h) hm hn hL hN (fun W' A k hk hb hi => hV W' A k hk (bTrans h hb) hi)
  have HBE : Hid (B ≤ E ∧ E ≤ w.heap.size) := ⟨hBE, hEw⟩
  have HD0 : Hid (placesC V n ≠ 0 → placesD V n = []) := fun h => by unfold placesD; rw [if_neg h]
  obtain ⟨S', hS'⟩ : ∃ S', S' = (if placesC V n = 0 then S else []) := ⟨_, rfl⟩
  have HS1 : Hid (placesC V n = 0 → S' = S) := fun h => by rw [hS', if_pos h]
  have HS2 : Hid (placesC V n ≠ 0 → S' = []) := fun h => by rw [hS', if_neg h]
  rw [← hS']
  clear hS'
  generalize placesC V n = C at *
  generalize placesD V n = D at *
  clear hE hA hm hn hL hN hV hS hBE hEw hz
  go_enter Try.func32, Try.ntmps32
  go_wp2_with fail
  refine (HSZ.out _ (HI.out.keep (bAlloc (Below.refl _ _) _))).mono ?_
  rintro r w1 ⟨rfl, hb⟩
  have HB1 : Hid (Below w.heap.size w w1) := bTrans (bAlloc (Below.refl _ _) _) hb
  have Y1 : Hid (Box w1 w.heap.size (.slice none 0 0) (.slice none 0 0) 26) := (box_new w _ _ _).keep hb
  clear hb
  go_wp2_with fail
  refine (HEP.out _ HB1.out).mono ?_
  rintro r w2 ⟨a2, c2, rfl, hp, hb⟩
  have HP2 : Hid (Piece w1.heap.size w2.heap.size w2 (.slice a2 D.length c2) D) := hp
  have HB2 : Hid (Below w.heap.size w w2) := bTrans HB1.out hb
  have Y2 : Hid (Box w2 w.heap.size (.slice none 0 0) (.slice none 0 0) 26) := Y1.out.keep hb
  have LT : Hid (w.heap.size < w1.heap.size) := Y1.out.lt
  have LT2 : Hid (w1.heap.size ≤ w2.heap.size) := hb.size
  clear hp hb Y1
  have y0 := Y2.out.c0
  have y1 := Y2.out.c1
  have f0 : w2.frozen? ⟨w.heap.size, 0, none⟩ = false := free_at Y2.out 0
  have f1 : w2.frozen? ⟨w.heap.size, 1, none⟩ = false := free_at Y2.out 1
  by_cases h0 : C = 0
  · have EC : Hid (S' = S) := HS1.out h0
    subst h0
    clear HS1 HS2 HD0
    have HR : Hid (((w2.setCell ⟨w.heap.size, 0, none⟩ (.slice sa S.length sc)).setCell ⟨w.heap.size, 1, none⟩ (.slice a2 D.length c2)).heap[w.heap.size]? = some (.cells #[.slice sa S.length sc, .slice a2 D.length c2] 26 (0, 0))) := arr_stored Y2.out
    go_wp2
    refine bodyPost_ret (results_arr_tmp Try.results32 _ _ w.heap.size _ _ rfl HR.out) rfl ?_
    refine ⟨_, rfl, ?_, below_setCell (below_setCell HB2.out (Nat.le_refl _) _ _) (Nat.le_refl _) _ _⟩
    rw [EC.out]
    have L1 := LT.out
    have L2 := LT2.out
    have L3 := HBE.out
    have p1 : Piece B E w2 (.slice sa S.length sc) S := HS.out.belowC HB2.out L3.2
    have p1' := (p1.win (win_setCell w2 w.heap.size 0 (.slice sa S.length sc)) (.inl L3.2)).win (win_setCell _ w.heap.size 1 (.slice a2 D.length c2)) (.inl L3.2)
    have p2' := (HP2.out.win (win_setCell w2 w.heap.size 0 (.slice sa S.length sc)) (.inr (by omega))).win (win_setCell _ w.heap.size 1 (.slice a2 D.length c2)) (.inr (by omega))
    exact ⟨_, _, rfl, p1'.mono (Nat.le_refl _) (by simp only [size_setCell]; omega), p2'.mono (by omega) (by simp only [size_setCell]; omega), p1'.apart p2' (.inl (by omega))⟩
  · have hne : (C != 0) = true := by simpa using h0
    have ED : Hid (D = []) := HD0.out h0
    have EC : Hid (S' = []) := HS2.out h0
    clear h0
    have HR : Hid (((w2.setCell ⟨w.heap.size, 0, none⟩ (.slice none 0 0)).setCell ⟨w.heap.size, 1, none⟩ (.slice none 0 0)).heap[w.heap.size]? = some (.cells #[.slice none 0 0, .slice none 0 0] 26 (0, 0))) := arr_stored Y2.out
    go_wp2
    refine bodyPost_ret (results_arr_tmp Try.results32 _ _ w.heap.size _ _ rfl HR.out) rfl ?_
    refine ⟨_, rfl, ?_, below_setCell (below_setCell HB2.out (Nat.le_refl _) _ _) (Nat.le_refl _) _ _⟩
    rw [EC.out, ED.out]
    exact arr_zero _ _ _
/-- A list of one array, of two, in a block of its own. -/
theorem arrs_one {W : World} {o : Nat} {x y : Value} {t : TypeId} {s d : List Int} (hb : Box W o x y t) (h : ArrI W (.agg #[x, y]) s d) : ArrsI W (.slice (some ⟨o, 0, none⟩) 1 1) [s, d] := by
  obtain ⟨a, c, b, e, e', i1, i2, g1, g2⟩ := h
  obtain ⟨rfl, rfl⟩ : x = .slice a s.length c ∧ y = .slice b d.length e := by cases e'; exact ⟨rfl, rfl⟩
  refine ⟨_, 1, 1, rfl, rfl, .inr ⟨o, 0, [.slice a s.length c, .slice b d.length e], rfl, hb.lt, rfl, fun j hj => ?_⟩⟩
  match j, hj with
  | 0, _ => exact ⟨hb.c0, a, c, rfl, g1, i1⟩
  | 1, _ => exact ⟨hb.c1, b, e, rfl, g2, i2⟩
theorem arrs_two {W : World} {o : Nat} {x y x' y' : Value} {t : TypeId} {s d s' d' : List Int} (hb : W.heap[o]? = some (.cells #[x, y, x', y'] t (0, 0))) (h : ArrI W (.agg #[x, y]) s d) (k : ArrI W (.agg #[x', y']) s' d') : ArrsI W (.slice (some ⟨o, 0, none⟩) 2 2) [s, d, s', d'] := by
  obtain ⟨a, c, b, e, e', i1, i2, g1, g2⟩ := h
  obtain ⟨rfl, rfl⟩ : x = .slice a s.length c ∧ y = .slice b d.length e := by cases e'; exact ⟨rfl, rfl⟩
  obtain ⟨a', c', b', f', e', i3, i4, g3, g4⟩ := k
  obtain ⟨rfl, rfl⟩ : x' = .slice a' s'.length c' ∧ y' = .slice b' d'.length f' := by cases e'; exact ⟨rfl, rfl⟩
  refine ⟨_, 2, 2, rfl, rfl, .inr ⟨o, 0, [.slice a s.length c, .slice b d.length e, .slice a' s'.length c', .slice b' d'.length f'], rfl, lt_of_heapA hb, rfl, fun j hj => ?_⟩⟩
  match j, hj with
  | 0, _ => exact ⟨cell_at hb rfl, a, c, rfl, g1, i1⟩
  | 1, _ => exact ⟨cell_at hb rfl, b, e, rfl, g2, i2⟩
  | 2, _ => exact ⟨cell_at hb rfl, a', c', rfl, g3, i3⟩
  | 3, _ => exact ⟨cell_at hb rfl, b', f', rfl, g4, i4⟩
theorem numsAt_one (s d : List Int) (k : Nat) : numsAt [s, d] 1 k = [numOf s d k] := rfl
theorem numsAt_two (s d s' d' : List Int) (k : Nat) : numsAt [s, d, s', d'] 2 k = [numOf s d k, numOf s' d' k] := rfl
theorem numOf_at {s d : List Int} (ho : arrOk s d = true) {k : Nat} (hk : k < d.length) : numOf s d k = d.getD k 0 := by
  unfold numOf
  by_cases e : s = []
  · subst e
    have z := arrOk_size ho
    rw [sizeV_0'] at z
    rw [if_pos rfl]
    have : k = 0 := by omega
    rw [this]
  · rw [if_neg e]
end Go.Proofs.Ytdobohobhpailaa
namespace Go.Proofs.Ytdobohobhpailaa
open Go.RowKit
open Go.ChangeMaps (setBlock)
set_option linter.unusedVariables false
set_option linter.unusedSimpArgs false
theorem laidOutE : laidOutB Try.prog = true := by kernel_rfl
theorem rowE : (66 : TypeId) < Try.prog.types.size := of_decide_eq_true (by kernel_rfl)
theorem wideE : (match Try.prog.underlying 66 with | some (.array _ _) | some (.struct _) => true | _ => false) = true := by rw [Try.underlying66]
set_option maxRecDepth 20000 in
theorem lawE : WideMaps.KeyLaw Try.prog 66 := deep_law_laid laidOutE (m := 3) (by omega) rowE (by kernel_rfl) wideE
/-- A shape by value is a key. -/
theorem keyE {n x y z : Int} (hn : (Lit.int .i64 n).wf = true) (hx : (Lit.int .i64 x).wf = true) (hy : (Lit.int .i64 y).wf = true) (hz : (Lit.int .i64 z).wf = true) :
    ∃ l, keyOf Try.prog 66 (.agg #[.int .i64 n, .int .i64 x, .int .i64 y, .int .i64 z]) = some l := by
  have hk : Try.prog.keyType 66 = true := by kernel_rfl
  have c4 : Try.prog.cellsOf 66 = 4 := by kernel_rfl
  have c3 : Try.prog.cellsOf 64 = 3 := by kernel_rfl
  have c1 : Try.prog.cellsOf 3 = 1 := by kernel_rfl
  obtain ⟨d, hd⟩ : ∃ d, Try.prog.types.size + 1 = d + 1 + 1 + 1 := ⟨Try.prog.types.size - 2, by have h : (66 : Nat) < Try.prog.types.size := rowE; omega⟩
  have r3 : List.range 3 = [0, 1, 2] := by decide
  have hl : Try.prog.keyLits (d + 1 + 1 + 1) 66 [.int .i64 n, .int .i64 x, .int .i64 y, .int .i64 z] = some [.int .i64 n, .int .i64 x, .int .i64 y, .int .i64 z] := by
    simp [Program.keyLits, Try.underlying66, Try.underlying64, Try.underlying3, c4, c3, c1, r3, hn, hx, hy, hz]
  refine ⟨.string (keyBytes [.int .i64 n, .int .i64 x, .int .i64 y, .int .i64 z]), ?_⟩
  have hf : (Value.agg #[.int .i64 n, .int .i64 x, .int .i64 y, .int .i64 z]).formed Try.prog 66 = true := by simp [Value.formed, Try.underlying66, c4]
  have e : keyOf Try.prog 66 (.agg #[.int .i64 n, .int .i64 x, .int .i64 y, .int .i64 z]) = if (Try.prog.keyType 66 && (Value.agg #[.int .i64 n, .int .i64 x, .int .i64 y, .int .i64 z]).formed Try.prog 66) = true then (Try.prog.keyLits (Try.prog.types.size + 1) 66 [.int .i64 n, .int .i64 x, .int .i64 y, .int .i64 z]).map fun ls => .string (keyBytes ls) else none := by
    unfold keyOf
    rw [Try.underlying66]
    rfl
  rw [e, hk, hf, hd, hl]
  rfl
theorem find_nil {w : World} {K1 : Value} {l1 : Lit} (h1 : keyOf Try.prog 66 K1 = some l1) : (Instr.findKey 66 K1 []).run Try.prog w = .ok none w := by
  rcases lawE.find w h1 [] (by simp) with ⟨h, _⟩ | ⟨j, e, _, h, _⟩
  · exact h
  · simp at h
theorem find_one {w : World} {K1 : Value} {l1 : Lit} (h1 : keyOf Try.prog 66 K1 = some l1) (v : Value) (s : Nat) : (Instr.findKey 66 K1 [⟨K1, v, s⟩]).run Try.prog w = .ok (some (0, v)) w := by
  rcases lawE.find w h1 [⟨K1, v, s⟩] (by simpa using ⟨l1, h1⟩) with ⟨_, h⟩ | ⟨j, e, h, he, _⟩
  · simp at h
  · match j, he with
    | 0, he => simp at he; subst he; exact h
theorem find_other {w : World} {K1 : Value} {K2 : Value} {l1 : Lit} {l2 : Lit} (h1 : keyOf Try.prog 66 K1 = some l1) (h2 : keyOf Try.prog 66 K2 = some l2) (hne : K1 ≠ K2) (v : Value) (s : Nat) : (Instr.findKey 66 K2 [⟨K1, v, s⟩]).run Try.prog w = .ok none w := by
  rcases lawE.find w h2 [⟨K1, v, s⟩] (by simpa using ⟨l1, h1⟩) with ⟨h, _⟩ | ⟨j, e, _, he, hk⟩
  · exact h
  · match j, he with
    | 0, he => simp at he; subst he; exact absurd hk hne
theorem find_two {w : World} {K1 : Value} {K2 : Value} {l1 : Lit} {l2 : Lit} (h1 : keyOf Try.prog 66 K1 = some l1) (h2 : keyOf Try.prog 66 K2 = some l2) (hne : K1 ≠ K2) (v u : Value) (s t : Nat) : (Instr.findKey 66 K2 [⟨K1, v, s⟩, ⟨K2, u, t⟩]).run Try.prog w = .ok (some (1, u)) w := by
  rcases lawE.find w h2 [⟨K1, v, s⟩, ⟨K2, u, t⟩] (by simpa using ⟨⟨l1, h1⟩, l2, h2⟩) with ⟨_, h⟩ | ⟨j, e, h, he, hk⟩
  · simp at h
  · match j, he with
    | 0, he => simp at he; subst he; exact absurd hk hne
    | 1, he => simp at he; subst he; exact h
theorem zeroI (w : World) : (zeroValue 3).run Try.prog w = .ok (.int .i64 0) w := by kernel_rfl
theorem look_0 {w : World} {K1 : Value} {l1 : Lit} {b : Nat} (hb : w.heap[b]? = some (.map #[] 0)) (h1 : keyOf Try.prog 66 K1 = some l1) :
    (Instr.lookup 96 (.map (some b)) K1 false).run Try.prog w = .ok (.int .i64 0) w := by
  simp [Instr.lookup, run_underlying Try.underlying96, MapKept.run_getObj_map hb, lawE.check w true h1, find_nil h1, zeroI, Result.andThen]
theorem look_1 {w : World} {K1 : Value} {l1 : Lit} {b : Nat} {v : Value} {s c : Nat} (hb : w.heap[b]? = some (.map #[⟨K1, v, s⟩] c)) (h1 : keyOf Try.prog 66 K1 = some l1) :
    (Instr.lookup 96 (.map (some b)) K1 false).run Try.prog w = .ok v w := by
  simp [Instr.lookup, run_underlying Try.underlying96, MapKept.run_getObj_map hb, lawE.check w false h1, find_one h1, Result.andThen]
theorem look_other {w : World} {K1 : Value} {K2 : Value} {l1 : Lit} {l2 : Lit} {b : Nat} {v : Value} {s c : Nat} (hb : w.heap[b]? = some (.map #[⟨K1, v, s⟩] c)) (h1 : keyOf Try.prog 66 K1 = some l1) (h2 : keyOf Try.prog 66 K2 = some l2) (hne : K1 ≠ K2) :
    (Instr.lookup 96 (.map (some b)) K2 false).run Try.prog w = .ok (.int .i64 0) w := by
  simp [Instr.lookup, run_underlying Try.underlying96, MapKept.run_getObj_map hb, lawE.check w false h2, find_other h1 h2 hne, zeroI, Result.andThen]
theorem look_2 {w : World} {K1 : Value} {K2 : Value} {l1 : Lit} {l2 : Lit} {b : Nat} {v u : Value} {s t c : Nat} (hb : w.heap[b]? = some (.map #[⟨K1, v, s⟩, ⟨K2, u, t⟩] c)) (h1 : keyOf Try.prog 66 K1 = some l1) (h2 : keyOf Try.prog 66 K2 = some l2) (hne : K1 ≠ K2) :
    (Instr.lookup 96 (.map (some b)) K2 false).run Try.prog w = .ok u w := by
  simp [Instr.lookup, run_underlying Try.underlying96, MapKept.run_getObj_map hb, lawE.check w false h2, find_two h1 h2 hne, Result.andThen]
theorem entry_0 {w : World} {K1 : Value} {l1 : Lit} {b : Nat} (hb : w.heap[b]? = some (.map #[] 0)) (h1 : keyOf Try.prog 66 K1 = some l1) :
    (Instr.mapEntry 96 (.map (some b)) K1).run Try.prog w = .ok (.tuple #[.int .i64 0, .int .i64 0]) (setBlock w b (.map #[⟨K1, .int .i64 0, 0⟩] 1)) := by
  simp [Instr.mapEntry, run_underlying Try.underlying96, MapKept.run_getObj_map hb, lawE.check w false h1, find_nil h1, zeroI, MapKept.run_setObj_map _ hb, Result.andThen, setBlock, goInt]
theorem entry_1 {w : World} {K1 : Value} {l1 : Lit} {b : Nat} {v : Value} {c : Nat} (hb : w.heap[b]? = some (.map #[⟨K1, v, 0⟩] c)) (h1 : keyOf Try.prog 66 K1 = some l1) :
    (Instr.mapEntry 96 (.map (some b)) K1).run Try.prog w = .ok (.tuple #[v, .int .i64 0]) (setBlock w b (.map #[⟨K1, v, 0⟩] c)) := by
  simp [Instr.mapEntry, run_underlying Try.underlying96, MapKept.run_getObj_map hb, lawE.check w false h1, find_one h1, lawE.stays w h1, MapKept.run_setObj_map _ hb, Result.andThen, setBlock, goInt]
theorem entry_other {w : World} {K1 : Value} {K2 : Value} {l1 : Lit} {l2 : Lit} {b : Nat} {v : Value} {s : Nat} (hb : w.heap[b]? = some (.map #[⟨K1, v, s⟩] 1)) (h1 : keyOf Try.prog 66 K1 = some l1) (h2 : keyOf Try.prog 66 K2 = some l2) (hne : K1 ≠ K2) :
    (Instr.mapEntry 96 (.map (some b)) K2).run Try.prog w = .ok (.tuple #[.int .i64 0, .int .i64 1]) (setBlock w b (.map #[⟨K1, v, s⟩, ⟨K2, .int .i64 0, 1⟩] 2)) := by
  simp [Instr.mapEntry, run_underlying Try.underlying96, MapKept.run_getObj_map hb, lawE.check w false h2, find_other h1 h2 hne, zeroI, MapKept.run_setObj_map _ hb, Result.andThen, setBlock, goInt]
theorem store_1 {w : World} {K1 : Value} {b : Nat} {v : Value} {c : Nat} (u : Value) (hb : w.heap[b]? = some (.map #[⟨K1, v, 0⟩] c)) :
    (Instr.entryStore 96 (.map (some b)) (.int .i64 0) u).run Try.prog w = .ok () (setBlock w b (.map #[⟨K1, u, 0⟩] c)) := by
  simp [Instr.entryStore, MapKept.run_getObj_map hb, asInt, asIntOf, MapKept.run_setObj_map _ hb, Result.andThen, setBlock]
theorem store_2 {w : World} {K1 : Value} {K2 : Value} {b : Nat} {v v' : Value} {c : Nat} (u : Value) (hb : w.heap[b]? = some (.map #[⟨K1, v, 0⟩, ⟨K2, v', 1⟩] c)) :
    (Instr.entryStore 96 (.map (some b)) (.int .i64 1) u).run Try.prog w = .ok () (setBlock w b (.map #[⟨K1, v, 0⟩, ⟨K2, u, 1⟩] c)) := by
  simp [Instr.entryStore, List.findIdx?_cons, MapKept.run_getObj_map hb, asInt, asIntOf, MapKept.run_setObj_map _ hb, Result.andThen, setBlock]
end Go.Proofs.Ytdobohobhpailaa
namespace Go.Proofs.Ytdobohobhpailaa
open Go.RowKit
open Go.ChangeMaps (setBlock)
set_option linter.unusedVariables false
set_option linter.unusedSimpArgs false
theorem setBlock_at {w : World} {b : Nat} {o : Obj} (h : b < w.heap.size) : (setBlock w b o).heap[b]? = some o := by simp [setBlock, h]
theorem setBlock_but (w : World) (b : Nat) (o : Obj) : But b w (setBlock w b o) :=
  ⟨rfl, rfl, rfl, by simp [setBlock], fun k _ hk => by simp only [setBlock]; rw [Array.getElem?_setIfInBounds_ne (Ne.symm hk)]⟩
theorem lt_of_heap {w : World} {b : Nat} {o : Obj} (h : w.heap[b]? = some o) : b < w.heap.size := (Array.getElem?_eq_some_iff.1 h).1
theorem setBlock_size (w : World) (b : Nat) (o : Obj) : (setBlock w b o).heap.size = w.heap.size := by simp [setBlock]
theorem step_first {K1 : Value} {l1 : Lit} {b : Nat} (W : World) (hm : W.heap[b]? = some (.map #[] 0)) (h1 : keyOf Try.prog 66 K1 = some l1) :
    ∃ W1 W2, (Instr.lookup 96 (.map (some b)) K1 false).run Try.prog W = .ok (.int .i64 0) W ∧ (Instr.mapEntry 96 (.map (some b)) K1).run Try.prog W = .ok (.tuple #[.int .i64 0, .int .i64 0]) W1 ∧
      (Instr.lookup 96 (.map (some b)) K1 false).run Try.prog W1 = .ok (.int .i64 0) W1 ∧ (Instr.entryStore 96 (.map (some b)) (.int .i64 0) (.int .i64 1)).run Try.prog W1 = .ok () W2 ∧
      W2.heap[b]? = some (.map #[⟨K1, .int .i64 1, 0⟩] 1) ∧ But b W W2 ∧ W2.heap.size = W.heap.size := by
  have hb := lt_of_heap hm
  have q : (setBlock W b (.map #[⟨K1, .int .i64 0, 0⟩] 1)).heap[b]? = some (.map #[⟨K1, .int .i64 0, 0⟩] 1) := setBlock_at hb
  refine ⟨_, _, look_0 hm h1, entry_0 hm h1, look_1 q h1, store_1 (.int .i64 1) q, setBlock_at (by rw [setBlock_size]; exact hb), (setBlock_but _ _ _).trans (setBlock_but _ _ _), by rw [setBlock_size, setBlock_size]⟩
theorem step_same {K1 : Value} {l1 : Lit} {b : Nat} (W : World) (hm : W.heap[b]? = some (.map #[⟨K1, .int .i64 1, 0⟩] 1)) (h1 : keyOf Try.prog 66 K1 = some l1) :
    ∃ W1 W2, (Instr.lookup 96 (.map (some b)) K1 false).run Try.prog W = .ok (.int .i64 1) W ∧ (Instr.mapEntry 96 (.map (some b)) K1).run Try.prog W = .ok (.tuple #[.int .i64 1, .int .i64 0]) W1 ∧
      (Instr.lookup 96 (.map (some b)) K1 false).run Try.prog W1 = .ok (.int .i64 1) W1 ∧ (Instr.entryStore 96 (.map (some b)) (.int .i64 0) (.int .i64 2)).run Try.prog W1 = .ok () W2 ∧
      W2.heap[b]? = some (.map #[⟨K1, .int .i64 2, 0⟩] 1) ∧ But b W W2 := by
  have hb := lt_of_heap hm
  have q : (setBlock W b (.map #[⟨K1, .int .i64 1, 0⟩] 1)).heap[b]? = some (.map #[⟨K1, .int .i64 1, 0⟩] 1) := setBlock_at hb
  exact ⟨_, _, look_1 hm h1, entry_1 hm h1, look_1 q h1, store_1 (.int .i64 2) q, setBlock_at (by rw [setBlock_size]; exact hb), (setBlock_but _ _ _).trans (setBlock_but _ _ _)⟩
theorem step_other {K1 : Value} {K2 : Value} {l1 : Lit} {l2 : Lit} {b : Nat} (W : World) (hm : W.heap[b]? = some (.map #[⟨K1, .int .i64 1, 0⟩] 1)) (h1 : keyOf Try.prog 66 K1 = some l1) (h2 : keyOf Try.prog 66 K2 = some l2) (hne : K1 ≠ K2) :
    ∃ W1 W2, (Instr.lookup 96 (.map (some b)) K2 false).run Try.prog W = .ok (.int .i64 0) W ∧ (Instr.mapEntry 96 (.map (some b)) K2).run Try.prog W = .ok (.tuple #[.int .i64 0, .int .i64 1]) W1 ∧
      (Instr.lookup 96 (.map (some b)) K2 false).run Try.prog W1 = .ok (.int .i64 0) W1 ∧ (Instr.entryStore 96 (.map (some b)) (.int .i64 1) (.int .i64 1)).run Try.prog W1 = .ok () W2 ∧
      W2.heap[b]? = some (.map #[⟨K1, .int .i64 1, 0⟩, ⟨K2, .int .i64 1, 1⟩] 2) ∧ But b W W2 := by
  have hb := lt_of_heap hm
  have q : (setBlock W b (.map #[⟨K1, .int .i64 1, 0⟩, ⟨K2, .int .i64 0, 1⟩] 2)).heap[b]? = some (.map #[⟨K1, .int .i64 1, 0⟩, ⟨K2, .int .i64 0, 1⟩] 2) := setBlock_at hb
  exact ⟨_, _, look_other hm h1 h2 hne, entry_other hm h1 h2 hne, look_2 q h1 h2 hne, store_2 (.int .i64 1) q, setBlock_at (by rw [setBlock_size]; exact hb), (setBlock_but _ _ _).trans (setBlock_but _ _ _)⟩
theorem len_map {b : Nat} {W : World} {es : Array MapEntry} {c : Nat} (ty : TypeId) (hm : W.heap[b]? = some (.map es c)) : (Builtin.len_ #[96] ty #[.map (some b)]).run Try.prog W = .ok (.int .i64 es.size) W := by
  simp [Builtin.len_, Builtin.lenOf, MapKept.run_getObj_map hm, run_underlying Try.underlying96, goInt, Result.andThen]
set_option maxRecDepth 20000 in
set_option maxHeartbeats 4000000 in
theorem alike_one (n x y z : Int) (g : Nat) (w : World) (l1 : Lit)
    (h1 : keyOf Try.prog 66 (.agg #[.int .i64 n, .int .i64 x, .int .i64 y, .int .i64 z]) = some l1)
    (hg : g < w.heap.size)
    (c0 : w.cell? ⟨g, 0, none⟩ = some (.int .i64 n)) (c1 : w.cell? ⟨g, 1, none⟩ = some (.int .i64 x)) (c2 : w.cell? ⟨g, 2, none⟩ = some (.int .i64 y)) (c3 : w.cell? ⟨g, 3, none⟩ = some (.int .i64 z)) (c4 : w.cell? ⟨g, 4, none⟩ = some (.int .i64 n)) (c5 : w.cell? ⟨g, 5, none⟩ = some (.int .i64 x)) (c6 : w.cell? ⟨g, 6, none⟩ = some (.int .i64 y)) (c7 : w.cell? ⟨g, 7, none⟩ = some (.int .i64 z)) :
    Calls Try.prog 68 #[.slice (some ⟨g, 0, none⟩) 2 2] w fun e w' => e = .returned (.bool true) ∧ Below w.heap.size w w' := by
  have K1 : Hid (keyOf Try.prog 66 (.agg #[.int .i64 n, .int .i64 x, .int .i64 y, .int .i64 z]) = some l1) := h1
  clear h1
  have hmm := @run_makeMap Try.prog
  go_enter Try.func68, Try.ntmps68
  go_wp2
  refine wp_loop_rounds 3 ?_
  rw [rounds_succ]
  go_wp2
  generalize hW : World.alloc (World.alloc w (.map #[] 0)) (.cells #[.int .i64 n, .int .i64 x, .int .i64 y, .int .i64 z] 66) = W
  have HB : Hid (Below w.heap.size w W) := by rw [← hW]; exact bAlloc (bAlloc (Below.refl _ _) _) _
  have hm : W.heap[w.heap.size]? = some (.map #[] 0) := by rw [← hW]; exact heap_alloc2_old w _ _
  have e0 : W.cell? ⟨w.heap.size + 1, 0, none⟩ = some (.int .i64 n) := by rw [← hW]; simp
  have e1 : W.cell? ⟨w.heap.size + 1, 1, none⟩ = some (.int .i64 x) := by rw [← hW]; simp
  have e2 : W.cell? ⟨w.heap.size + 1, 2, none⟩ = some (.int .i64 y) := by rw [← hW]; simp
  have e3 : W.cell? ⟨w.heap.size + 1, 3, none⟩ = some (.int .i64 z) := by rw [← hW]; simp
  clear hW
  obtain ⟨W1, W2, f1, f2, f3, f4, m2, hbut, hsz⟩ := step_first (b := w.heap.size) W.drew hm K1.out
  have M2 : Hid (W2.heap[w.heap.size]? = some (.map #[⟨.agg #[.int .i64 n, .int .i64 x, .int .i64 y, .int .i64 z], .int .i64 1, 0⟩] 1)) := m2
  have HB2 : Hid (Below w.heap.size w W2) := (HB.out.drew).trans (hbut.below (Nat.le_refl _) HB.out.size)
  clear m2 hbut hsz
  go_region
  clear f1 f2 f3 f4 hm e0 e1 e2 e3 c0 c1 c2 c3
  clear W1 HB W
  have d4 : W2.cell? ⟨g, 4, none⟩ = some (.int .i64 n) := by rw [HB2.out.cell (p := ⟨g, 4, none⟩) hg]; exact c4
  have d5 : W2.cell? ⟨g, 5, none⟩ = some (.int .i64 x) := by rw [HB2.out.cell (p := ⟨g, 5, none⟩) hg]; exact c5
  have d6 : W2.cell? ⟨g, 6, none⟩ = some (.int .i64 y) := by rw [HB2.out.cell (p := ⟨g, 6, none⟩) hg]; exact c6
  have d7 : W2.cell? ⟨g, 7, none⟩ = some (.int .i64 z) := by rw [HB2.out.cell (p := ⟨g, 7, none⟩) hg]; exact c7
  clear c4 c5 c6 c7
  go_wp2
  rw [rounds_succ]
  go_wp2
  generalize hW : World.alloc W2 (.cells #[.int .i64 n, .int .i64 x, .int .i64 y, .int .i64 z] 66) = W
  have HB : Hid (Below w.heap.size w W) := by rw [← hW]; exact bAlloc HB2.out _
  have hm : W.heap[w.heap.size]? = some (.map #[⟨.agg #[.int .i64 n, .int .i64 x, .int .i64 y, .int .i64 z], .int .i64 1, 0⟩] 1) := by rw [← hW, heap_alloc_old _ _ (lt_of_heap M2.out)]; exact M2.out
  have e0 : W.cell? ⟨W2.heap.size, 0, none⟩ = some (.int .i64 n) := by rw [← hW]; exact cell_new _ _ _ rfl
  have e1 : W.cell? ⟨W2.heap.size, 1, none⟩ = some (.int .i64 x) := by rw [← hW]; exact cell_new _ _ _ rfl
  have e2 : W.cell? ⟨W2.heap.size, 2, none⟩ = some (.int .i64 y) := by rw [← hW]; exact cell_new _ _ _ rfl
  have e3 : W.cell? ⟨W2.heap.size, 3, none⟩ = some (.int .i64 z) := by rw [← hW]; exact cell_new _ _ _ rfl
  clear hW d4 d5 d6 d7
  obtain ⟨W3, W4, f1, f2, f3, f4, m4, hbut⟩ := step_same (b := w.heap.size) W.drew hm K1.out
  have HB4 : Hid (Below w.heap.size w W4) := (HB.out.drew).trans (hbut.below (Nat.le_refl _) HB.out.size)
  have hlen : ∀ ty, (Builtin.len_ #[96] ty #[.map (some w.heap.size)]).run Try.prog W4 = .ok (.int .i64 1) W4 := fun ty => len_map ty m4
  clear m4 hbut
  go_region
  clear f1 f2 f3 f4 hm e0 e1 e2 e3
  go_wp2
  rw [rounds_succ]
  go_wp2
  go_ret
  exact ⟨rfl, HB4.out⟩
set_option maxRecDepth 20000 in
set_option maxHeartbeats 4000000 in
theorem alike_two (n x y z n' x' y' z' : Int) (g : Nat) (w : World) (l1 l2 : Lit)
    (h1 : keyOf Try.prog 66 (.agg #[.int .i64 n, .int .i64 x, .int .i64 y, .int .i64 z]) = some l1) (h2 : keyOf Try.prog 66 (.agg #[.int .i64 n', .int .i64 x', .int .i64 y', .int .i64 z']) = some l2)
    (hg : g < w.heap.size)
    (c0 : w.cell? ⟨g, 0, none⟩ = some (.int .i64 n)) (c1 : w.cell? ⟨g, 1, none⟩ = some (.int .i64 x)) (c2 : w.cell? ⟨g, 2, none⟩ = some (.int .i64 y)) (c3 : w.cell? ⟨g, 3, none⟩ = some (.int .i64 z)) (c4 : w.cell? ⟨g, 4, none⟩ = some (.int .i64 n')) (c5 : w.cell? ⟨g, 5, none⟩ = some (.int .i64 x')) (c6 : w.cell? ⟨g, 6, none⟩ = some (.int .i64 y')) (c7 : w.cell? ⟨g, 7, none⟩ = some (.int .i64 z'))
    (hne : (Value.agg #[.int .i64 n, .int .i64 x, .int .i64 y, .int .i64 z]) ≠ .agg #[.int .i64 n', .int .i64 x', .int .i64 y', .int .i64 z']) :
    Calls Try.prog 68 #[.slice (some ⟨g, 0, none⟩) 2 2] w fun e w' => e = .returned (.bool false) ∧ Below w.heap.size w w' := by
  have K1 : Hid (keyOf Try.prog 66 (.agg #[.int .i64 n, .int .i64 x, .int .i64 y, .int .i64 z]) = some l1) := h1
  have K2 : Hid (keyOf Try.prog 66 (.agg #[.int .i64 n', .int .i64 x', .int .i64 y', .int .i64 z']) = some l2) := h2
  have NE : Hid ((Value.agg #[.int .i64 n, .int .i64 x, .int .i64 y, .int .i64 z]) ≠ .agg #[.int .i64 n', .int .i64 x', .int .i64 y', .int .i64 z']) := hne
  clear h1 h2 hne
  have hmm := @run_makeMap Try.prog
  go_enter Try.func68, Try.ntmps68
  go_wp2
  refine wp_loop_rounds 3 ?_
  rw [rounds_succ]
  go_wp2
  generalize hW : World.alloc (World.alloc w (.map #[] 0)) (.cells #[.int .i64 n, .int .i64 x, .int .i64 y, .int .i64 z] 66) = W
  have HB : Hid (Below w.heap.size w W) := by rw [← hW]; exact bAlloc (bAlloc (Below.refl _ _) _) _
  have hm : W.heap[w.heap.size]? = some (.map #[] 0) := by rw [← hW]; exact heap_alloc2_old w _ _
  have e0 : W.cell? ⟨w.heap.size + 1, 0, none⟩ = some (.int .i64 n) := by rw [← hW]; simp
  have e1 : W.cell? ⟨w.heap.size + 1, 1, none⟩ = some (.int .i64 x) := by rw [← hW]; simp
  have e2 : W.cell? ⟨w.heap.size + 1, 2, none⟩ = some (.int .i64 y) := by rw [← hW]; simp
  have e3 : W.cell? ⟨w.heap.size + 1, 3, none⟩ = some (.int .i64 z) := by rw [← hW]; simp
  clear hW
  obtain ⟨W1, W2, f1, f2, f3, f4, m2, hbut, hsz⟩ := step_first (b := w.heap.size) W.drew hm K1.out
  have M2 : Hid (W2.heap[w.heap.size]? = some (.map #[⟨.agg #[.int .i64 n, .int .i64 x, .int .i64 y, .int .i64 z], .int .i64 1, 0⟩] 1)) := m2
  have HB2 : Hid (Below w.heap.size w W2) := (HB.out.drew).trans (hbut.below (Nat.le_refl _) HB.out.size)
  clear m2 hbut hsz
  go_region
  clear f1 f2 f3 f4 hm e0 e1 e2 e3 c0 c1 c2 c3
  clear W1 HB W
  have d4 : W2.cell? ⟨g, 4, none⟩ = some (.int .i64 n') := by rw [HB2.out.cell (p := ⟨g, 4, none⟩) hg]; exact c4
  have d5 : W2.cell? ⟨g, 5, none⟩ = some (.int .i64 x') := by rw [HB2.out.cell (p := ⟨g, 5, none⟩) hg]; exact c5
  have d6 : W2.cell? ⟨g, 6, none⟩ = some (.int .i64 y') := by rw [HB2.out.cell (p := ⟨g, 6, none⟩) hg]; exact c6
  have d7 : W2.cell? ⟨g, 7, none⟩ = some (.int .i64 z') := by rw [HB2.out.cell (p := ⟨g, 7, none⟩) hg]; exact c7
  clear c4 c5 c6 c7
  go_wp2
  rw [rounds_succ]
  go_wp2
  generalize hW : World.alloc W2 (.cells #[.int .i64 n', .int .i64 x', .int .i64 y', .int .i64 z'] 66) = W
  have HB : Hid (Below w.heap.size w W) := by rw [← hW]; exact bAlloc HB2.out _
  have hm : W.heap[w.heap.size]? = some (.map #[⟨.agg #[.int .i64 n, .int .i64 x, .int .i64 y, .int .i64 z], .int .i64 1, 0⟩] 1) := by rw [← hW, heap_alloc_old _ _ (lt_of_heap M2.out)]; exact M2.out
  have e0 : W.cell? ⟨W2.heap.size, 0, none⟩ = some (.int .i64 n') := by rw [← hW]; exact cell_new _ _ _ rfl
  have e1 : W.cell? ⟨W2.heap.size, 1, none⟩ = some (.int .i64 x') := by rw [← hW]; exact cell_new _ _ _ rfl
  have e2 : W.cell? ⟨W2.heap.size, 2, none⟩ = some (.int .i64 y') := by rw [← hW]; exact cell_new _ _ _ rfl
  have e3 : W.cell? ⟨W2.heap.size, 3, none⟩ = some (.int .i64 z') := by rw [← hW]; exact cell_new _ _ _ rfl
  clear hW d4 d5 d6 d7
  obtain ⟨W3, W4, f1, f2, f3, f4, m4, hbut⟩ := step_other (b := w.heap.size) W.drew hm K1.out K2.out NE.out
  have HB4 : Hid (Below w.heap.size w W4) := (HB.out.drew).trans (hbut.below (Nat.le_refl _) HB.out.size)
  have hlen : ∀ ty, (Builtin.len_ #[96] ty #[.map (some w.heap.size)]).run Try.prog W4 = .ok (.int .i64 2) W4 := fun ty => len_map ty m4
  clear m4 hbut
  go_region
  clear f1 f2 f3 f4 hm e0 e1 e2 e3
  go_wp2
  rw [rounds_succ]
  go_wp2
  go_ret
  exact ⟨rfl, HB4.out⟩
end Go.Proofs.Ytdobohobhpailaa
namespace Go.Proofs.Ytdobohobhpailaa
open Go.RowKit
set_option linter.unusedVariables false
theorem ext_eq {l m : List Int} {n n' : Nat} {x y z x' y' z' : Int} (h1 : Ext l n x y z) (h2 : Ext m n' x' y' z') (k1 : l.length ≤ 3) (k2 : m.length ≤ 3) (e : (n : Int) = n' ∧ x = x' ∧ y = y' ∧ z = z') : l = m := by
  obtain ⟨rfl, rfl, rfl, rfl⟩ := h1
  obtain ⟨rfl, rfl, rfl, rfl⟩ := h2
  obtain ⟨e0, e1, e2, e3⟩ := e
  have e0 : l.length = m.length := by omega
  apply List.ext_getElem e0
  intro i a b
  have : i = 0 ∨ i = 1 ∨ i = 2 := by omega
  rcases this with rfl | rfl | rfl
  · simpa [a, b] using e1
  · simpa [a, b] using e2
  · simpa [a, b] using e3
theorem ext_wf {l : List Int} {n : Nat} {x y z : Int} (hs : 0 ≤ sizeV l) (he : Ext l n x y z) : (Lit.int .i64 (n : Int)).wf = true ∧ (Lit.int .i64 x).wf = true ∧ (Lit.int .i64 y).wf = true ∧ (Lit.int .i64 z).wf = true := by
  obtain ⟨rfl, rfl, rfl, rfl⟩ := he
  obtain ⟨k1, k2, k3, k4⟩ := sizeV_ok hs
  have d : ∀ k, 0 ≤ l.getD k 0 ∧ l.getD k 0 ≤ 300 := by
    intro k
    by_cases hk : k < l.length
    · rw [List.all_eq_true] at k2
      exact dimOk_bd (k2 _ (by simp [hk]))
    · simp [List.getD, List.getElem?_eq_none (Nat.le_of_not_lt hk)]
  have d0 := d 0
  have d1 := d 1
  have d2 := d 2
  exact ⟨WalkArith.wf_i64 (by omega), WalkArith.wf_i64 (by omega), WalkArith.wf_i64 (by omega), WalkArith.wf_i64 (by omega)⟩
/-- Whether two shapes by value are one. -/
theorem alike_ext {l m : List Int} {n n' : Nat} {x y z x' y' z' : Int} (hs : 0 ≤ sizeV l) (ht : 0 ≤ sizeV m) (h1 : Ext l n x y z) (h2 : Ext m n' x' y' z') (g : Nat) (w : World) (hg : g < w.heap.size)
    (c0 : w.cell? ⟨g, 0, none⟩ = some (.int .i64 n)) (c1 : w.cell? ⟨g, 1, none⟩ = some (.int .i64 x)) (c2 : w.cell? ⟨g, 2, none⟩ = some (.int .i64 y)) (c3 : w.cell? ⟨g, 3, none⟩ = some (.int .i64 z))
    (c4 : w.cell? ⟨g, 4, none⟩ = some (.int .i64 n')) (c5 : w.cell? ⟨g, 5, none⟩ = some (.int .i64 x')) (c6 : w.cell? ⟨g, 6, none⟩ = some (.int .i64 y')) (c7 : w.cell? ⟨g, 7, none⟩ = some (.int .i64 z')) :
    Calls Try.prog 68 #[.slice (some ⟨g, 0, none⟩) 2 2] w fun e w' => e = .returned (.bool (decide (l = m))) ∧ Below w.heap.size w w' := by
  obtain ⟨a0, a1, a2, a3⟩ := ext_wf hs h1
  obtain ⟨b0, b1, b2, b3⟩ := ext_wf ht h2
  obtain ⟨l1, k1⟩ := keyE a0 a1 a2 a3
  obtain ⟨l2, k2⟩ := keyE b0 b1 b2 b3
  by_cases e : (n : Int) = n' ∧ x = x' ∧ y = y' ∧ z = z'
  · have q := ext_eq h1 h2 (sizeV_ok hs).1 (sizeV_ok ht).1 e
    obtain ⟨e0, rfl, rfl, rfl⟩ := e
    rw [show decide (l = m) = true by simpa using q]
    rw [← e0] at c4
    exact alike_one n x y z g w l1 k1 hg c0 c1 c2 c3 c4 c5 c6 c7
  · have q : ¬ l = m := by
      rintro rfl
      obtain ⟨rfl, rfl, rfl, rfl⟩ := h1
      obtain ⟨rfl, rfl, rfl, rfl⟩ := h2
      exact e ⟨rfl, rfl, rfl, rfl⟩
    rw [show decide (l = m) = false by simpa using q]
    exact alike_two n x y z n' x' y' z' g w l1 l2 k1 k2 hg c0 c1 c2 c3 c4 c5 c6 c7 (by
      intro h
      simp at h
      exact e ⟨by omega, h.2⟩)
set_option maxRecDepth 20000 in
set_option maxHeartbeats 2000000 in
/-- ShapeSame, whatever lists it is given. -/
theorem same_impl {l m : List Int} {a b : Option Addr} {w : World} (c d : Nat) (h1 : Ints w a l) (h2 : Ints w b m) :
    Calls Try.prog 51 #[.slice a l.length c, .slice b m.length d] w fun e w' => e = .returned (.bool (decide (0 ≤ sizeV l) && decide (l = m))) ∧ Below w.heap.size w w' := by
  have H1 : Hid (Ints w a l) := h1
  have H2 : Hid (Ints w b m) := h2
  clear h1 h2
  by_cases hs : 0 ≤ sizeV l
  · have hs' : decide (0 ≤ sizeV l) = true := by simpa using hs
    have HS : Hid (0 ≤ sizeV l) := hs
    by_cases ht : 0 ≤ sizeV m
    · have ht' : decide (0 ≤ sizeV m) = true := by simpa using ht
      have HT : Hid (0 ≤ sizeV m) := ht
      clear hs ht
      generalize hq : decide (l = m) = q
      have HQ : Hid (decide (l = m) = q) := hq
      clear hq
      go_enter Try.func51, Try.ntmps51
      go_wp2_with fail
      refine (ext_impl _ H1.out).mono ?_
      rintro e w1 ⟨n, x, y, z, rfl, he, hb⟩
      have HE : Hid (Ext l n x y z) := he HS.out
      have HB : Hid (Below w.heap.size w w1) := hb
      clear he hb
      go_wp2_with fail
      refine (ext_impl _ ((H2.out.keep HB.out).alloc _)).mono ?_
      rintro e w2 ⟨n', x', y', z', rfl, he, hb⟩
      have HE2 : Hid (Ext m n' x' y' z') := he HT.out
      have HB2 : Hid (Below w.heap.size w w2) := bTrans (bAlloc HB.out _) hb
      have r0 : ∀ o : Obj, (w2.alloc o).cell? ⟨w1.heap.size, 0, none⟩ = some (.int .i64 n) := fun o => by rw [(bAlloc hb o).cell (p := ⟨w1.heap.size, 0, none⟩) (by simp)]; exact cell_new _ _ _ rfl
      have r1 : ∀ o : Obj, (w2.alloc o).cell? ⟨w1.heap.size, 1, none⟩ = some (.int .i64 x) := fun o => by rw [(bAlloc hb o).cell (p := ⟨w1.heap.size, 1, none⟩) (by simp)]; exact cell_new _ _ _ rfl
      have r2 : ∀ o : Obj, (w2.alloc o).cell? ⟨w1.heap.size, 2, none⟩ = some (.int .i64 y) := fun o => by rw [(bAlloc hb o).cell (p := ⟨w1.heap.size, 2, none⟩) (by simp)]; exact cell_new _ _ _ rfl
      have r3 : ∀ o : Obj, (w2.alloc o).cell? ⟨w1.heap.size, 3, none⟩ = some (.int .i64 z) := fun o => by rw [(bAlloc hb o).cell (p := ⟨w1.heap.size, 3, none⟩) (by simp)]; exact cell_new _ _ _ rfl
      clear he hb
      go_wp2_with fail
      refine (alike_ext HS.out HT.out HE.out HE2.out (w2.heap.size + 1) _ (by simp) (by simp) (by simp) (by simp) (by simp) (by simp) (by simp) (by simp) (by simp)).mono ?_
      rintro e w3 ⟨rfl, hb⟩
      have HB3 : Hid (Below w.heap.size w w3) := bTrans (bAlloc (bAlloc HB2.out _) _) hb
      clear hb
      rw [HQ.out]
      go_wp2
      go_ret
      exact ⟨by simp [hs'], HB3.out⟩
    · have ht' : decide (0 ≤ sizeV m) = false := by simpa using ht
      have hne : l ≠ m := fun e => ht (e ▸ hs)
      have HN : Hid (l ≠ m) := hne
      clear hs ht hne
      go_enter Try.func51, Try.ntmps51
      go_wp2_with fail
      refine (ext_impl _ H1.out).mono ?_
      rintro e w1 ⟨n, x, y, z, rfl, he, hb⟩
      have HB : Hid (Below w.heap.size w w1) := hb
      clear he hb
      go_wp2_with fail
      refine (ext_impl _ ((H2.out.keep HB.out).alloc _)).mono ?_
      rintro e w2 ⟨n', x', y', z', rfl, he, hb⟩
      have HB2 : Hid (Below w.heap.size w w2) := bTrans (bAlloc HB.out _) hb
      clear he hb
      go_wp2
      go_ret
      exact ⟨by simp [HN.out], bAlloc HB2.out _⟩
  · have hs' : decide (0 ≤ sizeV l) = false := by simpa using hs
    clear hs
    go_enter Try.func51, Try.ntmps51
    go_wp2_with fail
    refine (ext_impl _ H1.out).mono ?_
    rintro e w1 ⟨n, x, y, z, rfl, he, hb⟩
    have HB : Hid (Below w.heap.size w w1) := hb
    clear he hb
    go_wp2_with fail
    refine (ext_impl _ ((H2.out.keep HB.out).alloc _)).mono ?_
    rintro e w2 ⟨n', x', y', z', rfl, he, hb⟩
    have HB2 : Hid (Below w.heap.size w w2) := bTrans (bAlloc HB.out _) hb
    clear he hb
    generalize decide (0 ≤ sizeV m) = q
    go_wp2
    go_ret
    exact ⟨by simp [hs'], bAlloc HB2.out _⟩
end Go.Proofs.Ytdobohobhpailaa
namespace Go.Proofs.Ytdobohobhpailaa
open Go.RowKit
set_option linter.unusedVariables false
set_option linter.unusedSimpArgs false
theorem fitC_no {s d t e : List Int} (h : ¬ (arrOk s d = true ∧ arrOk t e = true)) : fitC s d t e = 1 := by unfold fitC; rw [if_neg h]
set_option maxRecDepth 20000 in
set_option maxHeartbeats 4000000 in
/-- Fit. -/
theorem fit_impl {s d t e : List Int} {w : World} {v u : Value} (h : ArrI w v s d) (k : ArrI w u t e) (hs : s.length ≤ 1048576) (hd : d.length ≤ 1048576) (ht : t.length ≤ 1048576) (he : e.length ≤ 1048576) :
    Calls Try.prog 29 #[v, u] w fun r w' => ∃ v', r = .returned (.tuple #[v', .int .i64 (fitC s d t e)]) ∧ Piece w.heap.size w'.heap.size w' v' (fitS s d t e) ∧ Below w.heap.size w w' := by
  have H : Hid (ArrI w v s d) := h
  have K : Hid (ArrI w u t e) := k
  obtain ⟨a, c, b, f, rfl, h1, h2, g1, g2⟩ := h
  obtain ⟨a', c', b', f', rfl, k1, k2, g3, g4⟩ := k
  have H1 : Hid (IntsI w (.slice a s.length c) s) := ⟨a, c, rfl, g1, h1⟩
  have K1 : Hid (IntsI w (.slice a' t.length c') t) := ⟨a', c', rfl, g3, k1⟩
  have I1 : Hid (Ints w a s) := h1
  have I2 : Hid (Ints w a' t) := k1
  have HS : Hid (s.length ≤ 1048576) := hs
  have HD : Hid (d.length ≤ 1048576) := hd
  have HT : Hid (t.length ≤ 1048576) := ht
  have HE : Hid (e.length ≤ 1048576) := he
  clear h1 h2 k1 k2 hs hd ht he g1 g2 g3 g4
  by_cases ho : arrOk s d = true
  · have HO : Hid (arrOk s d = true) := ho
    by_cases ho' : arrOk t e = true
    · have HO' : Hid (arrOk t e = true) := ho'
      have key : Hid (fitC s d t e = if s = [] ∨ t = [] then 0 else if s.length ≠ t.length then 4 else if s ≠ t then 3 else 0) := by show _ = _; unfold fitC; rw [if_pos ⟨ho, ho'⟩]
      have fs : Hid (fitS s d t e = if fitC s d t e = 0 then (if s = [] then t else s) else []) := rfl
      have SH : Hid (decide (0 ≤ sizeV s) = true) := by show _ = _; simpa using arrOk_shape ho
      clear ho ho'
      go_enter Try.func29, Try.ntmps29
      go_wp2_with fail
      refine (arrOk_impl (H.out.keep (bAlloc (bAlloc (Below.refl _ _) _) _)) HD.out).mono ?_
      rintro r w1 ⟨rfl, hb⟩
      have HB1 : Hid (Below w.heap.size w w1) := bTrans (bAlloc (bAlloc (Below.refl _ _) _) _) hb
      have X1 : Hid (Box w1 w.heap.size (.slice a s.length c) (.slice b d.length f) 26) := ((box_new w _ _ _).keep (bAlloc (Below.refl _ _) _)).keep hb
      have Y1 : Hid (Box w1 (w.heap.size + 1) (.slice a' t.length c') (.slice b' e.length f') 26) := (box_new2 w _ _ _ _).keep hb
      have x0 := X1.out.c0
      have x1 := X1.out.c1
      have y0 := Y1.out.c0
      have y1 := Y1.out.c1
      clear hb
      rw [HO.out]
      go_wp2_with fail
      refine (arrOk_impl (K.out.keep HB1.out) HE.out).mono ?_
      rintro r w2 ⟨rfl, hb⟩
      have HB2 : Hid (Below w.heap.size w w2) := bTrans HB1.out hb
      have X2 : Hid (Box w2 w.heap.size (.slice a s.length c) (.slice b d.length f) 26) := X1.out.keep hb
      have Y2 : Hid (Box w2 (w.heap.size + 1) (.slice a' t.length c') (.slice b' e.length f') 26) := Y1.out.keep hb
      clear hb x0 x1 y0 y1 X1 Y1 HB1
      have x0 := X2.out.c0
      have y0 := Y2.out.c0
      rw [HO'.out]
      by_cases e1 : s = []
      · subst e1
        have EC : Hid (fitC [] d t e = 0) := by show _ = _; rw [key.out, if_pos (.inl rfl)]
        have ES : Hid (fitS [] d t e = t) := by show _ = _; rw [fs.out, if_pos EC.out, if_pos rfl]
        go_wp2_with fail
        refine (copied_new (K1.out.keep HB2.out) HT.out).mono ?_
        rintro r w9 ⟨a9, c9, rfl, hp, hb⟩
        have P9 : Hid (Piece w.heap.size w9.heap.size w9 _ _ ∧ Below w.heap.size w w9) := ⟨hp.mono HB2.out.size (Nat.le_refl _), bTrans HB2.out hb⟩
        clear hp hb
        go_wp2
        go_ret2
        exact ⟨_, by rw [EC.out]; rfl, by rw [ES.out]; exact P9.out.1, P9.out.2⟩
      · have n1 : ((s.length : Int) == 0) = false := by
          have := List.length_pos_iff.2 e1
          simp; omega
        by_cases e2 : t = []
        · subst e2
          have EC : Hid (fitC s d [] e = 0) := by show _ = _; rw [key.out, if_pos (.inr rfl)]
          have ES : Hid (fitS s d [] e = s) := by show _ = _; rw [fs.out, if_pos EC.out, if_neg e1]
          go_wp2_with fail
          refine (copied_new (H1.out.keep HB2.out) HS.out).mono ?_
          rintro r w9 ⟨a9, c9, rfl, hp, hb⟩
          have P9 : Hid (Piece w.heap.size w9.heap.size w9 _ _ ∧ Below w.heap.size w w9) := ⟨hp.mono HB2.out.size (Nat.le_refl _), bTrans HB2.out hb⟩
          clear hp hb
          go_wp2
          go_ret2
          exact ⟨_, by rw [EC.out]; rfl, by rw [ES.out]; exact P9.out.1, P9.out.2⟩
        · have n2 : ((t.length : Int) == 0) = false := by
            have := List.length_pos_iff.2 e2
            simp; omega
          have key2 : Hid (fitC s d t e = if s.length ≠ t.length then 4 else if s ≠ t then 3 else 0) := by show _ = _; rw [key.out, if_neg (by simp [e1, e2])]
          have E1 : Hid (s ≠ []) := e1
          clear e1 e2
          by_cases e3 : s.length = t.length
          · have n3 : ((s.length : Int) != (t.length : Int)) = false := by simp [e3]
            have E3 : Hid (s.length = t.length) := e3
            clear e3
            by_cases e4 : s = t
            · have EC : Hid (fitC s d t e = 0) := by show _ = _; rw [key2.out, if_neg (by simpa using E3.out), if_neg (by simpa using e4)]
              have ES : Hid (fitS s d t e = s) := by show _ = _; rw [fs.out, if_pos EC.out, if_neg E1.out]
              have DQ : Hid ((decide (0 ≤ sizeV s) && decide (s = t)) = true) := by show _ = _; rw [SH.out]; simpa using e4
              clear e4
              go_wp2_with fail
              refine (same_impl c c' (I1.out.keep HB2.out) (I2.out.keep HB2.out)).mono ?_
              rintro r w3 ⟨rfl, hb⟩
              have HB3 : Hid (Below w.heap.size w w3) := bTrans HB2.out hb
              have z0 := (X2.out.keep hb).c0
              rw [DQ.out]
              clear hb x0 y0
              go_wp2_with fail
              refine (copied_new (H1.out.keep HB3.out) HS.out).mono ?_
              rintro r w9 ⟨a9, c9, rfl, hp, hb⟩
              have P9 : Hid (Piece w.heap.size w9.heap.size w9 _ _ ∧ Below w.heap.size w w9) := ⟨hp.mono HB3.out.size (Nat.le_refl _), bTrans HB3.out hb⟩
              clear hp hb
              go_wp2
              go_ret2
              exact ⟨_, by rw [EC.out]; rfl, by rw [ES.out]; exact P9.out.1, P9.out.2⟩
            · have EC : Hid (fitC s d t e = 3) := by show _ = _; rw [key2.out, if_neg (by simpa using E3.out), if_pos e4]
              have ES : Hid (fitS s d t e = []) := by show _ = _; rw [fs.out, if_neg (by rw [EC.out]; decide)]
              have DQ : Hid ((decide (0 ≤ sizeV s) && decide (s = t)) = false) := by show _ = _; rw [SH.out]; simpa using e4
              clear e4
              go_wp2_with fail
              refine (same_impl c c' (I1.out.keep HB2.out) (I2.out.keep HB2.out)).mono ?_
              rintro r w3 ⟨rfl, hb⟩
              have HB3 : Hid (Below w.heap.size w w3) := bTrans HB2.out hb
              rw [DQ.out]
              clear hb
              go_wp2
              go_ret2
              exact ⟨_, by rw [EC.out]; rfl, by rw [ES.out]; exact Piece.nil _ _ _, HB3.out⟩
          · have n3 : ((s.length : Int) != (t.length : Int)) = true := by simp; omega
            have EC : Hid (fitC s d t e = 4) := by show _ = _; rw [key2.out, if_pos e3]
            have ES : Hid (fitS s d t e = []) := by show _ = _; rw [fs.out, if_neg (by rw [EC.out]; decide)]
            clear e3
            go_wp2
            go_ret2
            exact ⟨_, by rw [EC.out]; rfl, by rw [ES.out]; exact Piece.nil _ _ _, HB2.out⟩
    · have EC : Hid (fitC s d t e = 1) := fitC_no (by rintro ⟨_, h⟩; exact ho' h)
      have ES : Hid (fitS s d t e = []) := fitS_bad (by rw [EC.out]; decide)
      have HO' : Hid (arrOk t e = false) := by show _ = _; simpa using ho'
      clear ho ho'
      go_enter Try.func29, Try.ntmps29
      go_wp2_with fail
      refine (arrOk_impl (H.out.keep (bAlloc (bAlloc (Below.refl _ _) _) _)) HD.out).mono ?_
      rintro r w1 ⟨rfl, hb⟩
      have HB1 : Hid (Below w.heap.size w w1) := bTrans (bAlloc (bAlloc (Below.refl _ _) _) _) hb
      have Y1 : Hid (Box w1 (w.heap.size + 1) (.slice a' t.length c') (.slice b' e.length f') 26) := (box_new2 w _ _ _ _).keep hb
      have y0 := Y1.out.c0
      have y1 := Y1.out.c1
      clear hb
      rw [HO.out]
      go_wp2_with fail
      refine (arrOk_impl (K.out.keep HB1.out) HE.out).mono ?_
      rintro r w2 ⟨rfl, hb⟩
      have HB2 : Hid (Below w.heap.size w w2) := bTrans HB1.out hb
      clear hb
      rw [HO'.out]
      go_wp2
      go_ret2
      exact ⟨_, by rw [EC.out]; rfl, by rw [ES.out]; exact Piece.nil _ _ _, HB2.out⟩
  · have EC : Hid (fitC s d t e = 1) := fitC_no (by rintro ⟨h, _⟩; exact ho h)
    have ES : Hid (fitS s d t e = []) := fitS_bad (by rw [EC.out]; decide)
    have HO : Hid (arrOk s d = false) := by show _ = _; simpa using ho
    clear ho
    go_enter Try.func29, Try.ntmps29
    go_wp2_with fail
    refine (arrOk_impl (H.out.keep (bAlloc (bAlloc (Below.refl _ _) _) _)) HD.out).mono ?_
    rintro r w1 ⟨rfl, hb⟩
    have HB1 : Hid (Below w.heap.size w w1) := bTrans (bAlloc (bAlloc (Below.refl _ _) _) _) hb
    clear hb
    rw [HO.out]
    go_wp2
    go_ret2
    exact ⟨_, by rw [EC.out]; rfl, by rw [ES.out]; exact Piece.nil _ _ _, HB1.out⟩
end Go.Proofs.Ytdobohobhpailaa
namespace Go.Proofs.Ytdobohobhpailaa
open Go.RowKit
set_option linter.unusedVariables false
set_option linter.unusedSimpArgs false
theorem four_blocks (w : World) (A B C D : Obj) : ((((w.alloc A).alloc B).alloc C).alloc D).heap[w.heap.size]? = some A ∧ ((((w.alloc A).alloc B).alloc C).alloc D).heap[w.heap.size + 1]? = some B ∧ ((((w.alloc A).alloc B).alloc C).alloc D).heap[w.heap.size + 1 + 1]? = some C ∧ ((((w.alloc A).alloc B).alloc C).alloc D).heap[w.heap.size + 1 + 1 + 1]? = some D := by
  have e1 := heap_alloc_new w A
  have e2 := heap_alloc_new (w.alloc A) B
  have e3 := heap_alloc_new ((w.alloc A).alloc B) C
  have e4 := heap_alloc_new (((w.alloc A).alloc B).alloc C) D
  simp only [World.size_alloc] at e2 e3 e4
  refine ⟨?_, ?_, ?_, e4⟩
  · rw [heap_alloc_old _ _ (by simp only [World.size_alloc]; omega), heap_alloc_old _ _ (by simp only [World.size_alloc]; omega), heap_alloc_old _ _ (by simp only [World.size_alloc]; omega)]; exact e1
  · rw [heap_alloc_old _ _ (by simp only [World.size_alloc]; omega), heap_alloc_old _ _ (by simp only [World.size_alloc]; omega)]; exact e2
  · rw [heap_alloc_old _ _ (by simp only [World.size_alloc]; omega)]; exact e3
theorem twoImpl_bad {g : Int} {s d t e : List Int} (h : eachTwoC g s d t e ≠ 0) : eachTwoS g s d t e = [] ∧ eachTwoD g s d t e = [] := by
  unfold eachTwoS eachTwoD; rw [if_neg h, if_neg h]; exact ⟨rfl, rfl⟩
set_option maxRecDepth 20000 in
set_option maxHeartbeats 4000000 in
/-- EachTwo. -/
theorem eachTwo_impl {g : Int} {s d t e : List Int} {w : World} {v u : Value} (h : ArrI w v s d) (k : ArrI w u t e) (hs : s.length ≤ 1048576) (hd : d.length ≤ 1048576) (ht : t.length ≤ 1048576) (he : e.length ≤ 1048576) :
    Calls Try.prog 9 #[.int .i64 g, v, u] w fun r w' => ∃ v', r = .returned (.tuple #[v', .int .i64 (eachTwoC g s d t e)]) ∧ Arr w.heap.size w'.heap.size w' v' (eachTwoS g s d t e) (eachTwoD g s d t e) ∧ Below w.heap.size w w' := by
  have H : Hid (ArrI w v s d) := h
  have K : Hid (ArrI w u t e) := k
  obtain ⟨a, c, b, f, rfl, _, _, _, _⟩ := h
  obtain ⟨a', c', b', f', rfl, _, _, _, _⟩ := k
  have HFI : Hid (∀ W, Below w.heap.size w W → Calls Try.prog 29 #[.agg #[.slice a s.length c, .slice b d.length f], .agg #[.slice a' t.length c', .slice b' e.length f']] W fun r w' => ∃ v', r = .returned (.tuple #[v', .int .i64 (fitC s d t e)]) ∧ Piece W.heap.size w'.heap.size w' v' (fitS s d t e) ∧ Below W.heap.size W w') := fun W hb => fit_impl (H.out.keep hb) (K.out.keep hb) hs hd ht he
  have HL : Hid (s.length ≤ 1048576 ∧ d.length ≤ 1048576 ∧ t.length ≤ 1048576 ∧ e.length ≤ 1048576) := ⟨hs, hd, ht, he⟩
  clear hs hd ht he
  by_cases hg : sign2 g = true
  · have HG : Hid (sign2 g = true) := hg
    by_cases hf : fitC s d t e = 0
    · obtain ⟨ho, ho'⟩ := fitC_ok hf
      obtain ⟨F1, F2, F3⟩ := fit_size hf
      have EC : Hid (eachTwoC g s d t e = placesC (fun i => twoV g (numOf s d i) (numOf t e i)) (eachN s d t e)) := by show _ = _; unfold eachTwoC placesC; rw [if_pos ⟨ho, ho', hg⟩, if_pos hf]
      have ES : Hid (eachTwoS g s d t e = if placesC (fun i => twoV g (numOf s d i) (numOf t e i)) (eachN s d t e) = 0 then fitS s d t e else []) := by show _ = _; unfold eachTwoS; rw [EC.out]
      have ED : Hid (eachTwoD g s d t e = placesD (fun i => twoV g (numOf s d i) (numOf t e i)) (eachN s d t e)) := by show _ = _; unfold eachTwoD placesD; rw [EC.out]
      have HFL : Hid (∀ (W : World) (q o B E : Nat) (sa : Option Addr) (sc : Nat), Below w.heap.size w W → W.cell? ⟨q, 0, none⟩ = some (.int .i64 g) → q < W.heap.size → W.heap[o]? = some (.cells #[.slice a s.length c, .slice b d.length f, .slice a' t.length c', .slice b' e.length f'] 26 (0, 0)) → Piece B E W (.slice sa (fitS s d t e).length sc) (fitS s d t e) → B ≤ E → E ≤ W.heap.size →
          Calls Try.prog 32 #[.slice sa (fitS s d t e).length sc, .func (.func 30) #[] #[.pointer (some ⟨q, 0, none⟩)], .slice (some ⟨o, 0, none⟩) 2 2] W fun r w' => ∃ v', r = .returned (.tuple #[v', .int .i64 (eachTwoC g s d t e)]) ∧ Arr B w'.heap.size w' v' (eachTwoS g s d t e) (eachTwoD g s d t e) ∧ Below W.heap.size W w') := by
        intro W q o B E sa sc hb hq hqs ho4 hp hBE hEW
        rw [EC.out, ES.out, ED.out]
        refine filled_impl (F := [s, d, t, e]) (enters_of Try.func30 (by kernel_rfl) rfl) (arrs_two ho4 (H.out.keep hb) (K.out.keep hb)) (by decide) F2 ?_ ?_ ?_ hp hBE hEW F1.symm
        · intro j
          obtain ⟨l1, l2, l3, l4⟩ := HL.out
          match j with
          | 0 => exact l1
          | 1 => exact l2
          | 2 => exact l3
          | 3 => exact l4
          | j + 4 => simp
        · intro i hi
          have z1 := arrOk_size ho
          have z2 := arrOk_size ho'
          have k1 : s = [] → d.length = 1 := by rintro rfl; rw [sizeV_0'] at z1; omega
          have k2 : t = [] → e.length = 1 := by rintro rfl; rw [sizeV_0'] at z2; omega
          match i, hi with
          | 0, _ => exact ⟨fun q => by have := k1 q; show 0 < d.length; omega, fun q => by
              show eachN s d t e ≤ d.length
              apply Classical.byContradiction
              intro hh
              have := (F3 d.length (by omega)).2.1 q
              omega⟩
          | 1, _ => exact ⟨fun q => by have := k2 q; show 0 < e.length; omega, fun q => by
              show eachN s d t e ≤ e.length
              apply Classical.byContradiction
              intro hh
              have := (F3 e.length (by omega)).2.2.2 q
              omega⟩
        · intro W' A k hk hb' hi
          exact does2_impl hi ((hb'.cell (p := ⟨q, 0, none⟩) hqs).trans hq)
      have HF0 : Hid (fitC s d t e = 0) := hf
      clear hg hf ho ho' F1 F2 F3 EC ES ED
      generalize eachTwoC g s d t e = C at *
      generalize eachTwoS g s d t e = S at *
      generalize eachTwoD g s d t e = D at *
      generalize fitS s d t e = Z at *
      go_enter Try.func9, Try.ntmps9
      go_wp2_with fail
      refine (knownTwo_impl g _).mono ?_
      rintro r w1 ⟨rfl, hb⟩
      have HB1 : Hid (Below w.heap.size w w1) := bTrans (bAlloc (bAlloc (bAlloc (bAlloc (Below.refl _ _) _) _) _) _) hb
      have q1 := four_blocks w (.cells #[.int .i64 g] 3) (.cells #[.slice a s.length c, .slice b d.length f] 26) (.cells #[.slice a' t.length c', .slice b' e.length f'] 26) (.cells #[.slice none 0 0, .slice none 0 0] 26)
      have G1 : Hid (w1.heap[w.heap.size]? = some (.cells #[.int .i64 g] 3)) := by show _ = _; rw [hb.block _ (lt_of_heapA q1.1)]; exact q1.1
      have X1 : Hid (Box w1 (w.heap.size + 1) (.slice a s.length c) (.slice b d.length f) 26) := Box.keep q1.2.1 hb
      have Y1 : Hid (Box w1 (w.heap.size + 1 + 1) (.slice a' t.length c') (.slice b' e.length f') 26) := Box.keep q1.2.2.1 hb
      have R1 : Hid (Box w1 (w.heap.size + 1 + 1 + 1) (.slice none 0 0) (.slice none 0 0) 26) := Box.keep q1.2.2.2 hb
      clear hb q1
      rw [HG.out]
      have x0 := X1.out.c0
      have x1 := X1.out.c1
      have y0 := Y1.out.c0
      have y1 := Y1.out.c1
      go_wp2_with fail
      refine (HFI.out _ HB1.out).mono ?_
      rintro r w2 ⟨v2, rfl, hp, hb⟩
      obtain ⟨a2, c2, rfl, _⟩ := hp.ints
      have HB2 : Hid (Below w.heap.size w w2) := bTrans HB1.out hb
      have P2 : Hid (Piece w1.heap.size w2.heap.size w2 (.slice a2 Z.length c2) Z) := hp
      have G2 : Hid (w2.heap[w.heap.size]? = some (.cells #[.int .i64 g] 3)) := by show _ = _; rw [hb.block _ (lt_of_heapA G1.out)]; exact G1.out
      have X2 : Hid (Box w2 (w.heap.size + 1) (.slice a s.length c) (.slice b d.length f) 26) := X1.out.keep hb
      have Y2 : Hid (Box w2 (w.heap.size + 1 + 1) (.slice a' t.length c') (.slice b' e.length f') 26) := Y1.out.keep hb
      have R2 : Hid (Box w2 (w.heap.size + 1 + 1 + 1) (.slice none 0 0) (.slice none 0 0) 26) := R1.out.keep hb
      have L1 : Hid (w.heap.size + 1 + 1 + 1 < w1.heap.size ∧ w1.heap.size ≤ w2.heap.size) := ⟨R1.out.lt, hb.size⟩
      rw [HF0.out]
      clear hb hp x0 x1 y0 y1 G1 X1 Y1 R1
      have x0 := X2.out.c0
      have x1 := X2.out.c1
      have y0 := Y2.out.c0
      have y1 := Y2.out.c1
      go_wp2_with fail
      refine (HFL.out _ w.heap.size w2.heap.size w1.heap.size w2.heap.size a2 c2 (bAlloc HB2.out _) (((bAlloc (Below.refl w2.heap.size w2) _).cell (p := ⟨w.heap.size, 0, none⟩) (lt_of_heapA G2.out)).trans (cell_at G2.out rfl)) (Nat.lt_of_lt_of_le (lt_of_heapA G2.out) (bAlloc (Below.refl w2.heap.size w2) _).size) (heap_alloc_new _ _) (P2.out.keep (bAlloc (Below.refl _ _) _)) L1.out.2 (bAlloc (Below.refl w2.heap.size w2) _).size).mono ?_
      rintro r w3 ⟨v3, rfl, ha, hb⟩
      obtain ⟨a3, c3, b3, e3, rfl, _, _, _, _⟩ := ha.arrI
      have HA3 : Hid (Arr w1.heap.size w3.heap.size w3 (.agg #[.slice a3 S.length c3, .slice b3 D.length e3]) S D) := ha
      have HB3 : Hid (Below w.heap.size w w3) := bTrans (bAlloc HB2.out _) hb
      have R3 : Hid (Box w3 (w.heap.size + 1 + 1 + 1) (.slice none 0 0) (.slice none 0 0) 26) := (R2.out.keep (bAlloc (Below.refl _ _) _)).keep hb
      clear ha hb x0 x1 y0 y1
      have r0 := R3.out.c0
      have r1 := R3.out.c1
      have f0 : w3.frozen? ⟨w.heap.size + 1 + 1 + 1, 0, none⟩ = false := free_at R3.out 0
      have f1 : w3.frozen? ⟨w.heap.size + 1 + 1 + 1, 1, none⟩ = false := free_at R3.out 1
      have HR : Hid (((w3.setCell ⟨w.heap.size + 1 + 1 + 1, 0, none⟩ (.slice a3 S.length c3)).setCell ⟨w.heap.size + 1 + 1 + 1, 1, none⟩ (.slice b3 D.length e3)).heap[w.heap.size + 1 + 1 + 1]? = some (.cells #[.slice a3 S.length c3, .slice b3 D.length e3] 26 (0, 0))) := arr_stored R3.out
      go_wp2
      refine bodyPost_ret (results_arr_tmp Try.results9 _ _ (w.heap.size + 1 + 1 + 1) _ _ rfl HR.out) rfl ?_
      refine ⟨_, rfl, ?_, below_setCell (below_setCell HB3.out (by omega) _ _) (by omega) _ _⟩
      have L := L1.out.1
      exact ((HA3.out.setCell L _ _).setCell L _ _).mono (by omega) (by simp only [size_setCell]; omega)
    · have EC : Hid (eachTwoC g s d t e = fitC s d t e) := by
        show _ = _
        unfold eachTwoC
        by_cases ho : arrOk s d = true ∧ arrOk t e = true
        · rw [if_pos ⟨ho.1, ho.2, hg⟩, if_neg hf]
        · rw [if_neg (fun q => ho ⟨q.1, q.2.1⟩), fitC_no ho]
      obtain ⟨es, ed⟩ := twoImpl_bad (g := g) (s := s) (d := d) (t := t) (e := e) (by rw [EC.out]; exact hf)
      rw [EC.out, es, ed]
      clear EC es ed hg
      generalize fitC s d t e = C at *
      generalize fitS s d t e = Z at *
      have hne : (C != 0) = true := by simpa using hf
      clear hf
      go_enter Try.func9, Try.ntmps9
      go_wp2_with fail
      refine (knownTwo_impl g _).mono ?_
      rintro r w1 ⟨rfl, hb⟩
      have HB1 : Hid (Below w.heap.size w w1) := bTrans (bAlloc (bAlloc (bAlloc (bAlloc (Below.refl _ _) _) _) _) _) hb
      have q1 := four_blocks w (.cells #[.int .i64 g] 3) (.cells #[.slice a s.length c, .slice b d.length f] 26) (.cells #[.slice a' t.length c', .slice b' e.length f'] 26) (.cells #[.slice none 0 0, .slice none 0 0] 26)
      have G1 : Hid (w1.heap[w.heap.size]? = some (.cells #[.int .i64 g] 3)) := by show _ = _; rw [hb.block _ (lt_of_heapA q1.1)]; exact q1.1
      have X1 : Hid (Box w1 (w.heap.size + 1) (.slice a s.length c) (.slice b d.length f) 26) := Box.keep q1.2.1 hb
      have Y1 : Hid (Box w1 (w.heap.size + 1 + 1) (.slice a' t.length c') (.slice b' e.length f') 26) := Box.keep q1.2.2.1 hb
      have R1 : Hid (Box w1 (w.heap.size + 1 + 1 + 1) (.slice none 0 0) (.slice none 0 0) 26) := Box.keep q1.2.2.2 hb
      clear hb q1
      rw [HG.out]
      have x0 := X1.out.c0
      have x1 := X1.out.c1
      have y0 := Y1.out.c0
      have y1 := Y1.out.c1
      go_wp2_with fail
      refine (HFI.out _ HB1.out).mono ?_
      rintro r w2 ⟨v2, rfl, hp, hb⟩
      obtain ⟨a2, c2, rfl, _⟩ := hp.ints
      have HB2 : Hid (Below w.heap.size w w2) := bTrans HB1.out hb
      have R2 : Hid (Box w2 (w.heap.size + 1 + 1 + 1) (.slice none 0 0) (.slice none 0 0) 26) := R1.out.keep hb
      clear hb hp x0 x1 y0 y1 G1 X1 Y1 R1
      have r0 := R2.out.c0
      have r1 := R2.out.c1
      have f0 : w2.frozen? ⟨w.heap.size + 1 + 1 + 1, 0, none⟩ = false := free_at R2.out 0
      have f1 : w2.frozen? ⟨w.heap.size + 1 + 1 + 1, 1, none⟩ = false := free_at R2.out 1
      have HR : Hid (((w2.setCell ⟨w.heap.size + 1 + 1 + 1, 0, none⟩ (.slice none 0 0)).setCell ⟨w.heap.size + 1 + 1 + 1, 1, none⟩ (.slice none 0 0)).heap[w.heap.size + 1 + 1 + 1]? = some (.cells #[.slice none 0 0, .slice none 0 0] 26 (0, 0))) := arr_stored R2.out
      go_wp2
      refine bodyPost_ret (results_arr_tmp Try.results9 _ _ (w.heap.size + 1 + 1 + 1) _ _ rfl HR.out) rfl ?_
      exact ⟨_, rfl, arr_zero _ _ _, below_setCell (below_setCell HB2.out (by omega) _ _) (by omega) _ _⟩
  · have hg' : sign2 g = false := by simpa using hg
    have HG : Hid (sign2 g = false) := hg'
    have EC : Hid (eachTwoC g s d t e = 1) := by
      show _ = _
      unfold eachTwoC
      rw [if_neg (fun q => hg q.2.2)]
    obtain ⟨es, ed⟩ := twoImpl_bad (g := g) (s := s) (d := d) (t := t) (e := e) (by rw [EC.out]; decide)
    rw [EC.out, es, ed]
    clear EC es ed hg hg' HFI
    go_enter Try.func9, Try.ntmps9
    go_wp2_with fail
    refine (knownTwo_impl g _).mono ?_
    rintro r w1 ⟨rfl, hb⟩
    have HB1 : Hid (Below w.heap.size w w1) := bTrans (bAlloc (bAlloc (bAlloc (bAlloc (Below.refl _ _) _) _) _) _) hb
    have q1 := four_blocks w (.cells #[.int .i64 g] 3) (.cells #[.slice a s.length c, .slice b d.length f] 26) (.cells #[.slice a' t.length c', .slice b' e.length f'] 26) (.cells #[.slice none 0 0, .slice none 0 0] 26)
    have G1 : Hid (w1.heap[w.heap.size]? = some (.cells #[.int .i64 g] 3)) := by show _ = _; rw [hb.block _ (lt_of_heapA q1.1)]; exact q1.1
    have X1 : Hid (Box w1 (w.heap.size + 1) (.slice a s.length c) (.slice b d.length f) 26) := Box.keep q1.2.1 hb
    have Y1 : Hid (Box w1 (w.heap.size + 1 + 1) (.slice a' t.length c') (.slice b' e.length f') 26) := Box.keep q1.2.2.1 hb
    have R1 : Hid (Box w1 (w.heap.size + 1 + 1 + 1) (.slice none 0 0) (.slice none 0 0) 26) := Box.keep q1.2.2.2 hb
    clear hb q1
    rw [HG.out]
    have r0 := R1.out.c0
    have r1 := R1.out.c1
    have f0 : w1.frozen? ⟨w.heap.size + 1 + 1 + 1, 0, none⟩ = false := free_at R1.out 0
    have f1 : w1.frozen? ⟨w.heap.size + 1 + 1 + 1, 1, none⟩ = false := free_at R1.out 1
    have HR : Hid (((w1.setCell ⟨w.heap.size + 1 + 1 + 1, 0, none⟩ (.slice none 0 0)).setCell ⟨w.heap.size + 1 + 1 + 1, 1, none⟩ (.slice none 0 0)).heap[w.heap.size + 1 + 1 + 1]? = some (.cells #[.slice none 0 0, .slice none 0 0] 26 (0, 0))) := arr_stored R1.out
    go_wp2
    refine bodyPost_ret (results_arr_tmp Try.results9 _ _ (w.heap.size + 1 + 1 + 1) _ _ rfl HR.out) rfl ?_
    exact ⟨_, rfl, arr_zero _ _ _, below_setCell (below_setCell HB1.out (by omega) _ _) (by omega) _ _⟩
end Go.Proofs.Ytdobohobhpailaa
namespace Go.Proofs.Ytdobohobhpailaa
open Go.RowKit Go.Shelf
set_option linter.unusedVariables false
set_option linter.unusedSimpArgs false
attribute [local go_sem] Oper.semAt_some
/-- An array stays where a block that is no cells is written, or a new one laid. -/
theorem Arr.grownN {B C : Nat} {W W' : World} {v : Value} {s d : List Int} {row : Option Nat} (h : Arr B C W v s d) (hg : W.grownBy W' row) (hr : ∀ r, row = some r → ∃ o : Obj, W.heap[r]? = some o ∧ o.isCells = false) : Arr B C W' v s d := by
  obtain ⟨x, y, rfl, h1, h2, h3⟩ := h
  have key : ∀ {u m}, Piece B C W u m → ∀ g, row = some g → NotAt g u := fun hp g e => by
    obtain ⟨o, ho, hc⟩ := hr g e
    exact hp.notRow (fun cur t fr hh => by rw [hh] at ho; cases ho; cases hc)
  exact ⟨x, y, rfl, h1.grown hg (key h1), h2.grown hg (key h2), h3⟩
theorem But.grownN {q : Nat} {A W W' : World} {row : Option Nat} (h : But q A W) (hg : W.grownBy W' row) (hr : ∀ r, row = some r → A.heap.size ≤ r) : But q A W' :=
  ⟨hg.os.trans h.os, hg.tape.trans h.tape, hg.output.trans h.output, Nat.le_trans h.size hg.size, fun k hk hne => (hg.block k (by have := h.size; omega) (fun e => by have := hr k e.symm; omega)).trans (h.block k hk hne)⟩
/-- What the loop keeps: nothing has turned but the box of what was reckoned so far. -/
structure RdI (A W : World) (N0 q : Nat) (x y : Value) (t D : List Int) : Prop where
  bt : But q A W
  z : Box W q x y 26
  a : ∃ B C, Arr B C W (.agg #[x, y]) t D ∧ N0 + 3 ≤ B ∧ C ≤ W.heap.size ∧ (C ≤ q ∨ q < B)
theorem RdI.arrI {A W : World} {N0 q : Nat} {x y : Value} {t D : List Int} (h : RdI A W N0 q x y t D) : ArrI W (.agg #[x, y]) t D := by
  obtain ⟨B, C, ha, _⟩ := h.a
  exact ha.arrI
theorem RdI.grown {A W W' : World} {N0 q : Nat} {x y : Value} {t D : List Int} {row : Option Nat} (h : RdI A W N0 q x y t D) (hg : W.grownBy W' row) (hr : ∀ r, row = some r → A.heap.size ≤ r ∧ ∃ o : Obj, W.heap[r]? = some o ∧ o.isCells = false) : RdI A W' N0 q x y t D := by
  obtain ⟨B, C, ha, h1, h2, h3⟩ := h.a
  refine ⟨h.bt.grownN hg (fun r e => (hr r e).1), ?_, ⟨B, C, ha.grownN hg (fun r e => (hr r e).2), h1, Nat.le_trans h2 hg.size, h3⟩⟩
  have hz := h.z
  unfold Box at hz ⊢
  rw [hg.block q (lt_of_heapA hz) (fun e => by obtain ⟨_, o, ho, hc⟩ := hr q e.symm; rw [hz] at ho; cases ho; cases hc)]
  exact hz
theorem RdI.put {A W W' : World} {N0 q C : Nat} {x y x' y' : Value} {t D D' : List Int} (h : RdI A W N0 q x y t D) (hb : Below W.heap.size W W') (ha : Arr W.heap.size C W' (.agg #[x', y']) t D') (hC : C ≤ W'.heap.size) (hN : N0 + 3 ≤ W.heap.size) : RdI A ((W'.setCell ⟨q, 0, none⟩ x').setCell ⟨q, 1, none⟩ y') N0 q x' y' t D' := by
  have h2 := h.z.lt
  have ww : Win q (q + 1) W' ((W'.setCell ⟨q, 0, none⟩ x').setCell ⟨q, 1, none⟩ y') := (win_setCell _ _ _ _).trans (win_setCell _ _ _ _)
  have b1 : But q W W' := ⟨hb.os, hb.tape, hb.output, hb.size, fun k hk _ => hb.block k hk⟩
  refine ⟨((h.bt.trans b1).setCell 0 x').setCell 1 y', arr_stored (h.z.keep hb), ⟨W.heap.size, C, ha.win ww (.inr (by omega)), hN, by simp only [size_setCell]; exact hC, .inr h2⟩⟩
theorem keepsFrom_put {B q : Nat} {W W' : World} {x' y' : Value} (hb : Below W.heap.size W W') (hq : q < B) : KeepsFrom B W ((W'.setCell ⟨q, 0, none⟩ x').setCell ⟨q, 1, none⟩ y') := by
  refine ⟨by simp only [size_setCell]; exact hb.size, fun j o h1 h2 _ => ?_⟩
  rw [heap_setCell_other _ _ _ _ (by show j ≠ q; omega), heap_setCell_other _ _ _ _ (by show j ≠ q; omega), hb.block j (Array.getElem?_eq_some_iff.1 h2).1]
  exact h2
theorem keepsTwo_put {q q8 G : Nat} {W W' : World} {x' y' : Value} (hb : Below W.heap.size W W') (h1 : q8 ≠ q) (h2 : G ≠ q) (h3 : q8 < W.heap.size) (h4 : G < W.heap.size) : KeepsTwo q8 G W ((W'.setCell ⟨q, 0, none⟩ x').setCell ⟨q, 1, none⟩ y') := by
  constructor
  · rw [heap_setCell_other _ _ _ _ (by show q8 ≠ q; exact h1), heap_setCell_other _ _ _ _ (by show q8 ≠ q; exact h1)]
    exact hb.block _ h3
  · rw [heap_setCell_other _ _ _ _ (by show G ≠ q; exact h2), heap_setCell_other _ _ _ _ (by show G ≠ q; exact h2)]
    exact hb.block _ h4
theorem box_but {A W : World} {q p : Nat} {x y : Value} {ty : TypeId} (h : Box A p x y ty) (hb : But q A W) (hne : p ≠ q) : Box W p x y ty := by
  unfold Box at h ⊢
  rw [hb.block p (lt_of_heapA h) hne]
  exact h
/-- Behind the stores of an answer that has a code. -/
theorem red_bad {w W W' : World} {N0 : Nat} {C : Int} {B : Nat} (hN : w.heap.size = N0) (hb : Below W.heap.size W W') (hw : Below N0 w W') (h1 : Box W' (N0 + 1) (.slice none 0 0) (.slice none 0 0) 26) (h2 : W'.heap[N0 + 2]? = some (.cells #[.int .i64 0] 3 (0, 0))) (hB : N0 + 3 ≤ B) :
    KeepsFrom B W (((W'.setCell ⟨N0 + 1, 0, none⟩ (.slice none 0 0)).setCell ⟨N0 + 1, 1, none⟩ (.slice none 0 0)).setCell ⟨N0 + 1 + 1, 0, none⟩ (.int .i64 C)) ∧
    Box (((W'.setCell ⟨N0 + 1, 0, none⟩ (.slice none 0 0)).setCell ⟨N0 + 1, 1, none⟩ (.slice none 0 0)).setCell ⟨N0 + 1 + 1, 0, none⟩ (.int .i64 C)) (N0 + 1) (.slice none 0 0) (.slice none 0 0) 26 ∧
    (((W'.setCell ⟨N0 + 1, 0, none⟩ (.slice none 0 0)).setCell ⟨N0 + 1, 1, none⟩ (.slice none 0 0)).setCell ⟨N0 + 1 + 1, 0, none⟩ (.int .i64 C)).heap[N0 + 2]? = some (.cells #[.int .i64 C] 3 (0, 0)) ∧
    Below N0 w (((W'.setCell ⟨N0 + 1, 0, none⟩ (.slice none 0 0)).setCell ⟨N0 + 1, 1, none⟩ (.slice none 0 0)).setCell ⟨N0 + 1 + 1, 0, none⟩ (.int .i64 C)) := by
  refine ⟨⟨by simp only [size_setCell]; exact hb.size, fun j o' k1 k2 _ => ?_⟩, ?_, ?_, ?_⟩
  · rw [heap_setCell_other _ _ _ _ (by show j ≠ N0 + 1 + 1; omega), heap_setCell_other _ _ _ _ (by show j ≠ N0 + 1; omega), heap_setCell_other _ _ _ _ (by show j ≠ N0 + 1; omega), hb.block j (Array.getElem?_eq_some_iff.1 k2).1]
    exact k2
  · have q : Box ((W'.setCell ⟨N0 + 1, 0, none⟩ (.slice none 0 0)).setCell ⟨N0 + 1, 1, none⟩ (.slice none 0 0)) (N0 + 1) (.slice none 0 0) (.slice none 0 0) 26 := arr_stored h1
    exact q.win (win_setCell _ (N0 + 1 + 1) 0 _) (.inl (by omega))
  · have q : ((W'.setCell ⟨N0 + 1, 0, none⟩ (.slice none 0 0)).setCell ⟨N0 + 1, 1, none⟩ (.slice none 0 0)).heap[N0 + 1 + 1]? = some (.cells #[.int .i64 0] 3 (0, 0)) := by
      rw [heap_setCell_other _ _ _ _ (by show N0 + 1 + 1 ≠ N0 + 1; omega), heap_setCell_other _ _ _ _ (by show N0 + 1 + 1 ≠ N0 + 1; omega)]
      exact h2
    have q2 := heap_setCell_same _ (N0 + 1 + 1) 0 _ _ (.int .i64 C) q
    rw [show N0 + 2 = N0 + 1 + 1 from rfl, q2]
    rfl
  · exact below_setCell (below_setCell (below_setCell hw (by omega) _ _) (by omega) _ _) (by omega) _ _
/-- Behind the return: the block for the rounds' deferred calls is turned. -/
theorem red_ret {w W : World} {N0 D' : Nat} {x y z : Value} (hD : N0 + 3 ≤ D') (hK : W.heap[D']? = some (.deferred (some []))) (h1 : W.heap[N0 + 1]? = some (.cells #[x, y] 26 (0, 0))) (h2 : W.heap[N0 + 2]? = some (.cells #[z] 3 (0, 0))) (hb : Below N0 w W) :
    (W.putObj D' (.deferred none)).heap[N0 + 1]? = some (.cells #[x, y] 26 (0, 0)) ∧ (W.putObj D' (.deferred none)).cell? ⟨N0 + 1 + 1, 0, none⟩ = some z ∧ Below N0 w (W.putObj D' (.deferred none)) ∧ ∀ B C v s d, Arr B C W v s d → Arr B C (W.putObj D' (.deferred none)) v s d := by
  have hg := grownBy_putObj' W D' (.deferred none)
  refine ⟨by rw [World.putObj_heap_other (by omega)]; exact h1, cell_at (by rw [World.putObj_heap_other (by omega)]; exact h2) rfl, ?_, fun B C v s d ha => ha.grownN hg (fun r e => by cases e; exact ⟨_, hK, rfl⟩)⟩
  exact ⟨hg.os.trans hb.os, hg.tape.trans hb.tape, hg.output.trans hb.output, Nat.le_trans hb.size hg.size, fun j hj => (World.putObj_heap_other (by omega)).trans (hb.block j hj)⟩
theorem red_good {w W : World} {N0 D' : Nat} {x y : Value} {t D : List Int} {B C : Nat} (hN : w.heap.size = N0) (hw : Below N0 w W) (h1 : Box W (N0 + 1) (.slice none 0 0) (.slice none 0 0) 26) (h2 : W.heap[N0 + 2]? = some (.cells #[.int .i64 0] 3 (0, 0))) (ha : Arr B C W (.agg #[x, y]) t D) (hB : N0 + 3 ≤ B) (hD : N0 + 3 ≤ D') (hK : W.heap[D']? = some (.deferred (some []))) :
    ∃ V, V = ((W.setCell ⟨N0 + 1, 0, none⟩ x).setCell ⟨N0 + 1, 1, none⟩ y).setCell ⟨N0 + 1 + 1, 0, none⟩ (.int .i64 0) ∧ V.heap[D']? = some (.deferred (some [])) ∧ V.heap[N0 + 1]? = some (.cells #[x, y] 26 (0, 0)) ∧ V.heap[N0 + 2]? = some (.cells #[.int .i64 0] 3 (0, 0)) ∧ Below N0 w V ∧ Arr B C V (.agg #[x, y]) t D ∧ V.heap.size = W.heap.size := by
  refine ⟨_, rfl, ?_, ?_, ?_, ?_, ?_, ?_⟩
  · rw [heap_setCell_other _ _ _ _ (by show D' ≠ N0 + 1 + 1; omega), heap_setCell_other _ _ _ _ (by show D' ≠ N0 + 1; omega), heap_setCell_other _ _ _ _ (by show D' ≠ N0 + 1; omega)]
    exact hK
  · have q : Box ((W.setCell ⟨N0 + 1, 0, none⟩ x).setCell ⟨N0 + 1, 1, none⟩ y) (N0 + 1) x y 26 := arr_stored h1
    exact q.win (win_setCell _ (N0 + 1 + 1) 0 _) (.inl (by omega))
  · have q : ((W.setCell ⟨N0 + 1, 0, none⟩ x).setCell ⟨N0 + 1, 1, none⟩ y).heap[N0 + 1 + 1]? = some (.cells #[.int .i64 0] 3 (0, 0)) := by
      rw [heap_setCell_other _ _ _ _ (by show N0 + 1 + 1 ≠ N0 + 1; omega), heap_setCell_other _ _ _ _ (by show N0 + 1 + 1 ≠ N0 + 1; omega)]
      exact h2
    have q2 := heap_setCell_same _ (N0 + 1 + 1) 0 _ _ (.int .i64 0) q
    rw [show N0 + 2 = N0 + 1 + 1 from rfl, q2]
    rfl
  · exact below_setCell (below_setCell (below_setCell hw (by omega) _ _) (by omega) _ _) (by omega) _ _
  · exact ((ha.setCell (by omega) _ _).setCell (by omega) _ _).setCell (by omega) _ _
  · simp only [size_setCell]
theorem slice_uptoA (W : World) (g n c m : Nat) (h : m ≤ c) : (Instr.slice 61 (.slice (some ⟨g, 0, none⟩) n c) none (some (.int .i64 (m : Int))) none).run Try.prog W = .ok (.slice (some ⟨g, 0, none⟩) m c) W := by
  have hs : (sizeOf 26).run Try.prog W = .ok 2 W := by kernel_rfl
  have he : Try.prog.elem 61 = 26 := by kernel_rfl
  rw [run_slice_h (P := Try.prog) (w := W) 61 (some ⟨g, 0, none⟩) n c (by rw [he]; exact Try.underlying61) .i64 (m : Int) (by omega) (by omega), he, hs]
  simp [Result.andThen, sliced, Addr.add]
theorem ListAt.cell {W0 wr : World} {g c k j : Nat} {xs : List Value} {F : List (List Int)} (h : ListAt W0 wr (.slice (some ⟨g, 0, none⟩) k c) k xs F) (hj : j < 2 * k) : wr.cell? ⟨g, 0 + j, none⟩ = some (xs.getD j undef) := by
  rcases h.own.2 with ⟨e, h0⟩ | ⟨g', cap, cur, e, hB, hg, hle, hmax, hsz, htk⟩
  · cases e
  · cases e
    have hx := h.own.1
    refine cell_at (fr := (0, 0)) hg ?_
    rw [Nat.zero_add]
    have e : (cur.toList.take (k * 2))[j]? = xs[j]? := by rw [htk]
    rw [List.getElem?_take_of_lt (by omega)] at e
    rw [← Array.getElem?_toList, e]
    have : j < xs.length := by omega
    simp [this]
theorem ListAt.form {W0 wr : World} {v : Value} {k : Nat} {xs : List Value} {F : List (List Int)} (h : ListAt W0 wr v k xs F) (hk : 0 < k) : ∃ g c, v = .slice (some ⟨g, 0, none⟩) k c ∧ W0.heap.size ≤ g ∧ g < wr.heap.size ∧ k ≤ c := by
  rcases h.own.2 with ⟨e, h0⟩ | ⟨g', cap, cur, e, hB, hg, hle, hmax, hsz, htk⟩
  · omega
  · exact ⟨g', cap, e, hB, lt_of_heapA hg, hle⟩
theorem results_arr_int {fn : Func} {p q : Tmp} (h : fn.results = #[.cell p 26, .cell q 3]) (tmps : Array Value) (w : World) (g k : Nat) (x y z : Value) (hp : tmps.getD p undef = .pointer (some ⟨g, 0, none⟩)) (hq : tmps.getD q undef = .pointer (some ⟨k, 0, none⟩))
    (hg : w.heap[g]? = some (.cells #[x, y] 26 (0, 0))) (hk : w.cell? ⟨k, 0, none⟩ = some z) : (results fn tmps).run Try.prog w = .ok (.tuple #[.agg #[x, y], z]) w := by
  have e : (asAddr (.pointer (some ⟨g, 0, none⟩))).run Try.prog w = .ok ⟨g, 0, none⟩ w := by simp [asAddr]
  have e' : (asAddr (.pointer (some ⟨k, 0, none⟩))).run Try.prog w = .ok ⟨k, 0, none⟩ w := by simp [asAddr]
  have l := arr_loaded hg
  have l' : (loadVar 3 ⟨k, 0, none⟩).run Try.prog w = .ok z w := by simp [loadVar, go_sem, hk]
  have hp' : tmps[p]?.getD undef = .pointer (some ⟨g, 0, none⟩) := by simpa using hp
  have hq' : tmps[q]?.getD undef = .pointer (some ⟨k, 0, none⟩) := by simpa using hq
  simp [results, h, hp', hq', e, e', l, l', Sem.run_bind, Result.andThen]
theorem blocks4r (w : World) (A B C D : Obj) :
    ((((w.alloc A).alloc B).alloc C).alloc D).heap[w.heap.size + 1]? = some B ∧ ((((w.alloc A).alloc B).alloc C).alloc D).heap[w.heap.size + 2]? = some C ∧ ((((w.alloc A).alloc B).alloc C).alloc D).heap[w.heap.size + 3]? = some D := by
  have s1 : (w.alloc A).heap.size = w.heap.size + 1 := by simp
  have s2 : ((w.alloc A).alloc B).heap.size = w.heap.size + 2 := by simp
  have s3 : (((w.alloc A).alloc B).alloc C).heap.size = w.heap.size + 3 := by simp
  refine ⟨?_, ?_, ?_⟩
  · have := ((bAlloc (bAlloc (Below.refl _ ((w.alloc A).alloc B)) C) D).block (w.alloc A).heap.size (by omega)).trans (heap_alloc_new (w.alloc A) B)
    rw [s1] at this; exact this
  · have := ((bAlloc (Below.refl _ (((w.alloc A).alloc B).alloc C)) D).block ((w.alloc A).alloc B).heap.size (by omega)).trans (heap_alloc_new ((w.alloc A).alloc B) C)
    rw [s2] at this; exact this
  · have := heap_alloc_new (((w.alloc A).alloc B).alloc C) D
    rw [s3] at this; exact this
def slA : Value → Option Addr
  | .slice a _ _ => a
  | _ => none
def slC : Value → Nat
  | .slice _ _ c => c
  | _ => 0
theorem sl_ints {w : World} {v : Value} {l : List Int} (h : IntsI w v l) : v = .slice (slA v) l.length (slC v) := by
  obtain ⟨a, c, rfl, _, _⟩ := h
  rfl
/-- The arrays of such a list, one by one. -/
theorem ListAt.each {W0 wr : World} {g c k : Nat} {xs : List Value} {t : List Int} {R : List (List Int)} (h : ListAt W0 wr (.slice (some ⟨g, 0, none⟩) k c) k xs (flatR t R)) (hR : R.length = k) {rg : Nat → List Int} (hrg : ∀ j, rg j = R.getD j []) : ∃ (xa ya : Nat → Option Addr) (xc yc : Nat → Nat), ∀ j, j < k →
    wr.cell? ⟨g, j * 2, none⟩ = some (.slice (xa j) t.length (xc j)) ∧ wr.cell? ⟨g, j * 2 + 1, none⟩ = some (.slice (ya j) (rg j).length (yc j)) ∧ ArrI W0 (.agg #[.slice (xa j) t.length (xc j), .slice (ya j) (rg j).length (yc j)]) t (rg j) := by
  refine ⟨fun j => slA (xs.getD (2 * j) undef), fun j => slA (xs.getD (2 * j + 1) undef), fun j => slC (xs.getD (2 * j) undef), fun j => slC (xs.getD (2 * j + 1) undef), ?_⟩
  intro j hj
  have c0 := h.cell (j := 2 * j) (by omega)
  have c1 := h.cell (j := 2 * j + 1) (by omega)
  have i0 := h.ints (2 * j) (by omega)
  have i1 := h.ints (2 * j + 1) (by omega)
  obtain ⟨f0, f1⟩ := flatR_at t R (i := j) (by omega)
  rw [f0] at i0
  rw [f1, ← hrg] at i1
  have s0 := sl_ints i0
  have s1 := sl_ints i1
  rw [Nat.zero_add] at c0
  rw [Nat.zero_add] at c1
  have e : j * 2 = 2 * j := Nat.mul_comm j 2
  refine ⟨by rw [e, c0]; exact congrArg _ s0, by rw [e, c1]; exact congrArg _ s1, ?_⟩
  simp only []
  rw [← s0, ← s1]
  obtain ⟨a, c, e, g1, h1⟩ := i0
  obtain ⟨b, f, e', g2, h2⟩ := i1
  rw [e, e']
  exact ⟨a, c, b, f, rfl, h1, h2, g1, g2⟩
set_option maxRecDepth 100000 in
set_option maxHeartbeats 8000000 in
/-- reducing's closure, of an array of one row at least. -/
theorem reduce1_impl {g : Int} {n0 : Int} {t d : List Int} {w : World} {v : Value} {o : Nat} (h : ArrI w v (n0 :: t) d) (ho : arrOk (n0 :: t) d = true) (hp : 0 < n0) (hg : w.cell? ⟨o, 0, none⟩ = some (.int .i64 g)) (hol : o < w.heap.size) :
    Calls Try.prog 46 #[v, .pointer (some ⟨o, 0, none⟩)] w fun r w' => ∃ v', r = .returned (.tuple #[v', .int .i64 (redL g t (rowsD (n0 :: t) d)).1]) ∧ Arr w.heap.size w'.heap.size w' v' (if (redL g t (rowsD (n0 :: t) d)).1 = 0 then t else []) (redL g t (rowsD (n0 :: t) d)).2 ∧ Below w.heap.size w w' := by
  have H : Hid (ArrI w v (n0 :: t) d) := h
  obtain ⟨a, c, b, f, rfl, _, _, _, _⟩ := h
  have HO : Hid (arrOk (n0 :: t) d = true) := ho
  have HRK : Hid (∀ i, i < (rowsD (n0 :: t) d).length → arrOk t ((rowsD (n0 :: t) d).getD i []) = true) := rowsD_ok ho (by simp)
  have hh := head_bd ho
  simp only [List.getD_cons_zero] at hh
  obtain ⟨M, hM⟩ : ∃ M : Nat, rowsN (n0 :: t) = M + 1 := ⟨n0.toNat - 1, by simp [rowsN]; omega⟩
  have hM3 : M ≤ 299 := by have : rowsN (n0 :: t) = n0.toNat := by simp [rowsN]
                           omega
  have HRL : Hid ((rowsD (n0 :: t) d).length = M + 1) := by show _ = _; rw [rowsD_len, hM]
  have HCO : Hid (∀ W q, Below w.heap.size w W → Box W q (.slice a (t.length + 1) c) (.slice b d.length f) 26 → Calls Try.prog 47 #[.func (.func 63) #[] #[.pointer (some ⟨q, 0, none⟩)]] W fun e w' => ∃ v xs, e = .returned v ∧ ListAt W w' v (M + 1) xs (flatR t (rowsD (n0 :: t) d))) := fun W q hb hB => by
    have q := collect_rows (H.out.keep hb) ho hB
    rw [hM] at q
    exact q
  generalize rowsD (n0 :: t) d = R at *
  obtain ⟨rg, hrg⟩ : ∃ rg : Nat → List Int, ∀ j, rg j = R.getD j [] := ⟨_, fun _ => rfl⟩
  have HRG : Hid (∀ j, rg j = R.getD j []) := hrg
  have HTL : Hid (t.length ≤ 1048576) := by
    have := (sizeV_ok (arrOk_shape (HRK.out 0 (by have := HRL.out; omega)))).1
    show _ ≤ _; omega
  have hRD : ∀ i, i < M + 1 → (rg i).length ≤ 300 := fun i hi => by rw [hrg]; exact arrOk_len (HRK.out i (by have := HRL.out; omega))
  obtain ⟨QC, hQC⟩ : ∃ QC, QC = (redL g t R).1 := ⟨_, rfl⟩
  obtain ⟨QS, hQS⟩ : ∃ QS, QS = (if (redL g t R).1 = 0 then t else []) := ⟨_, rfl⟩
  obtain ⟨QD, hQD⟩ : ∃ QD, QD = (redL g t R).2 := ⟨_, rfl⟩
  rw [← hQS, ← hQC, ← hQD]
  have EG : Hid (∀ d, redL g t R = (0, d) → QC = 0 ∧ QS = t ∧ QD = d) := fun d e => by rw [hQC, hQS, hQD, e]; exact ⟨rfl, if_pos rfl, rfl⟩
  have EB : Hid (∀ c, c ≠ 0 → redL g t R = (c, []) → QC = c ∧ QS = [] ∧ QD = []) := fun c hc e => by rw [hQC, hQS, hQD, e]; exact ⟨rfl, if_neg hc, rfl⟩
  have hne : ((M : Int) + 1 == 0) = false := by simp; omega
  clear hQC hQS hQD ho hh hM hp hrg
  refine (callsIn_wide (n := 8)).1 ?_
  refine callsIn_of_wp_marks Try.func46 rfl trivial ?_ rfl
  simp only [Try.ntmps46, List.size_toArray, List.length_cons, List.length_nil, Nat.reduceAdd, Nat.reduceSub, Array.replicate_succ, Array.replicate_zero, List.push_toArray, List.append_toArray, List.nil_append, List.cons_append]
  gi_wp2_with fail
  refine ⟨trivial, (cutRows_in _ _ _ _ rfl rfl).mono ?_⟩
  rintro rr w2 ⟨rfl, hw⟩
  have hsz2 : w2.heap.size = w.heap.size + 4 := by rw [hw]; simp
  have BK : Hid (w2.heap[w.heap.size + 1]? = some (.cells #[.slice none 0 0, .slice none 0 0] 26 (0, 0)) ∧ w2.heap[w.heap.size + 2]? = some (.cells #[.int .i64 0] 3 (0, 0)) ∧ w2.heap[w.heap.size + 3]? = some (.cells #[.slice a (t.length + 1) c, .slice b d.length f] 26 (0, 0))) := by rw [hw]; exact blocks4r w _ _ _ _
  have B2 : Hid (Below w.heap.size w w2) := by rw [hw]; exact bAlloc (bAlloc (bAlloc (bAlloc (Below.refl _ _) _) _) _) _
  clear hw
  gi_wp2_with fail
  refine ⟨trivial, (callsIn_wide.2 (HCO.out w2 (w.heap.size + 3) B2.out BK.out.2.2)).mono ?_⟩
  rintro rr w3 ⟨v3, xs, rfl, hL⟩
  obtain ⟨G, cc, rfl, hG1, hG2, hcc⟩ := hL.form (by omega)
  obtain ⟨xa, ya, xc, yc, HX⟩ := hL.each HRL.out HRG.out
  have HXX : Hid (∀ j, j < M + 1 → w3.cell? ⟨G, j * 2, none⟩ = some (.slice (xa j) t.length (xc j)) ∧ w3.cell? ⟨G, j * 2 + 1, none⟩ = some (.slice (ya j) (rg j).length (yc j)) ∧ ArrI w2 (.agg #[.slice (xa j) t.length (xc j), .slice (ya j) (rg j).length (yc j)]) t (rg j)) := HX
  have B3 : Hid (Below w2.heap.size w2 w3) := hL.below
  obtain ⟨m0, m1, mA⟩ := HX M (by omega)
  have HMA : Hid (ArrI w3 _ t (rg M)) := mA.keep hL.below
  have hsl := fun W => slice_uptoA W G (M + 1) cc M (by omega)
  have hS3 : Hid (w2.heap.size ≤ w3.heap.size) := hL.below.size
  have hml := hRD M (by omega)
  clear hL mA HX HCO
  gi_wp2_with fail
  refine ⟨trivial, (callsIn_wide.2 (copyOf_impl HMA.out HTL.out (by omega))).mono ?_⟩
  rintro rr w4 ⟨v4, rfl, ha4, hb4⟩
  obtain ⟨x4, xc4, y4, yc4, rfl, _, _, _, _⟩ := ha4.arrI
  have A4 : Hid (Arr w3.heap.size w4.heap.size w4 (.agg #[.slice x4 t.length xc4, .slice y4 (rg M).length yc4]) t (rg M)) := ha4
  have B4 : Hid (Below w3.heap.size w3 w4) := hb4
  clear ha4 hb4
  gi_wp2_with fail
  refine ⟨trivial, (backwardA_in _ _ _ rfl).mono ?_⟩
  rintro rr w6 ⟨rfl, hw⟩
  have hsz6 : w6.heap.size = w4.heap.size + 2 := by rw [hw]; simp
  have B46 : Hid (Below w4.heap.size w4 w6) := by rw [hw]; exact bAlloc (bAlloc (Below.refl _ _) _) _
  have Z6 : Hid (Box w6 w4.heap.size (.slice x4 t.length xc4) (.slice y4 (rg M).length yc4) 26) := by rw [hw]; exact (box_new w4 _ _ _).keep (bAlloc (Below.refl _ _) _)
  have Q6 : Hid (w6.cell? ⟨w4.heap.size + 1, 0, none⟩ = some (.slice (some ⟨G, 0, none⟩) M cc)) := by
    have q := heap_alloc_new (w4.alloc (.cells #[.slice x4 t.length xc4, .slice y4 (rg M).length yc4] 26)) (.cells #[.slice (some ⟨G, 0, none⟩) M cc] 61)
    rw [World.size_alloc] at q
    rw [hw]
    exact cell_at q rfl
  have s34 := B4.out.size
  have s23 := hS3.out
  have BW6 : Hid (Below w2.heap.size w2 w6) := bTrans B3.out (bTrans B4.out B46.out)
  have RD6 : Hid (RdI w6 w6 w.heap.size w4.heap.size (.slice x4 t.length xc4) (.slice y4 (rg M).length yc4) t (rg M)) :=
    ⟨But.refl _ _, Z6.out, ⟨w3.heap.size, w4.heap.size, A4.out.keep B46.out, by omega, by omega, .inl (Nat.le_refl _)⟩⟩
  have hG6 : G < w6.heap.size := by omega
  have h06 : ∀ j, j < M → w6.cell? ⟨G, 0 + j * 2, none⟩ = some (.slice (xa j) t.length (xc j)) ∧ w6.cell? ⟨G, 0 + j * 2 + 1, none⟩ = some (.slice (ya j) (rg j).length (yc j)) := fun j hj => by
    obtain ⟨q0, q1, _⟩ := HXX.out j (by omega)
    rw [Nat.zero_add]
    exact ⟨((bTrans B4.out B46.out).cell (p := ⟨G, j * 2, none⟩) hG2).trans q0, ((bTrans B4.out B46.out).cell (p := ⟨G, j * 2 + 1, none⟩) hG2).trans q1⟩
  have R36 : Hid (Box w6 (w.heap.size + 1) (.slice none 0 0) (.slice none 0 0) 26) := Box.keep (w := w2) BK.out.1 BW6.out
  have R46 : Hid (w6.heap[w.heap.size + 2]? = some (.cells #[.int .i64 0] 3 (0, 0))) := (BW6.out.block _ (by omega)).trans BK.out.2.1
  have G6 : Hid (w6.cell? ⟨o, 0, none⟩ = some (.int .i64 g)) := ((bTrans B2.out BW6.out).cell (p := ⟨o, 0, none⟩) hol).trans hg
  clear hw m0 m1 hsl hml
  gi_wp2_with fail
  refine wpIn_rangeFunc_ownH rfl (by decide) (gf := 67) (lb := #[.pointer (some ⟨w4.heap.size + 1, 0, none⟩)]) rfl trivial (enters_of Try.func67 (by kernel_rfl) rfl)
    (backA_stops 7 (w4.heap.size + 1) G 0 cc M (some ⟨G, 0, none⟩) xa ya (fun _ => t.length) xc (fun j => (rg j).length) yc (by decide) (by omega) (fun _ => rfl) w6 (by omega) hG6 Q6.out h06) keepsTwo_t (keepsTwo_b (by omega) hG6) (Below.refl _ _) (fun _ => rfl)
    (fun pre W => ∃ xa ya xc yc D, accR g t R M pre = (0, D) ∧ RdI w6 W w.heap.size w4.heap.size (.slice xa t.length xc) (.slice ya D.length yc) t D)
    (fun c pre W => c = Code.ret ∧ ∃ C, C ≠ 0 ∧ (accR g t R M pre).1 = C ∧ Box W (w.heap.size + 1) (.slice none 0 0) (.slice none 0 0) 26 ∧ W.heap[w.heap.size + 2]? = some (.cells #[.int .i64 C] 3 (0, 0)) ∧ Below w.heap.size w W)
    ?hI ?hIx
    ⟨_, _, _, _, _, by rw [accR_nil, ← HRG.out], RD6.out⟩
    (fun x a' W => ∃ Bx, w6.heap.size ≤ Bx ∧ Box W Bx (.slice (xa (M - 1 - x.1)) t.length (xc (M - 1 - x.1))) (.slice (ya (M - 1 - x.1)) (rg (M - 1 - x.1)).length (yc (M - 1 - x.1))) 26 ∧ a' = { tmps := #[.agg #[.slice a (t.length + 1) c, .slice b d.length f], .pointer (some ⟨o, 0, none⟩), .pointer (some ⟨w.heap.size, 0, none⟩), .pointer (some ⟨w.heap.size + 1, 0, none⟩), .pointer (some ⟨w.heap.size + 1 + 1, 0, none⟩), .slice (some ⟨G, 0, none⟩) (M + 1) cc, .int .i64 (M : Int), .pointer (some ⟨w4.heap.size, 0, none⟩), undef, .pointer (some ⟨Bx, 0, none⟩), undef, undef, .agg #[.slice a (t.length + 1) c, .slice b d.length f], .func (.func 63) #[] #[.pointer (some ⟨w.heap.size + 1 + 1 + 1, 0, none⟩)], .slice (some ⟨G, 0, none⟩) (M + 1) cc, .slice (some ⟨G, 0, none⟩) (M + 1) cc, .int .i64 ((M : Int) + 1), .bool false, undef, undef, undef, undef, undef, undef, undef, .slice (some ⟨G, 0, none⟩) (M + 1) cc, .int .i64 ((M : Int) + 1), .int .i64 (M : Int), .slice (some ⟨G, 0, none⟩) (M + 1) cc, .int .i64 (M : Int), .pointer (some ⟨G, M * 2, none⟩), .agg #[.slice (xa M) t.length (xc M), .slice (ya M) (rg M).length (yc M)], .agg #[.slice x4 t.length xc4, .slice y4 (rg M).length yc4], .slice (some ⟨G, 0, none⟩) (M + 1) cc, .int .i64 (M : Int), .slice (some ⟨G, 0, none⟩) M cc, .func (.func 67) #[] #[.pointer (some ⟨w4.heap.size + 1, 0, none⟩)], .int .i64 ((M - 1 - x.1 : Nat) : Int), .agg #[.slice (xa (M - 1 - x.1)) t.length (xc (M - 1 - x.1)), .slice (ya (M - 1 - x.1)) (rg (M - 1 - x.1)).length (yc (M - 1 - x.1))], undef, undef, undef, undef, undef, undef, undef, undef, undef, undef, undef, undef, undef], defers := [] })
    ?hAx ?assign ?body ?done ?stop
  case hI =>
    rintro pre X Y row ⟨xa5, ya5, xc5, yc5, D, hD, hst⟩ hgr hrow
    exact ⟨_, _, _, _, D, hD, hst.grown hgr (fun r e => hrow r e)⟩
  case hIx =>
    rintro c' pre X Y row ⟨hc', C, h1, h2, h3, h4, h5⟩ hgr hrow
    have hne : ∀ j, j < w6.heap.size → some j ≠ row := fun j hj e => by have := (hrow j e.symm).1; omega
    refine ⟨hc', C, h1, h2, ?_, ?_, ?_⟩
    · unfold Box at h3 ⊢
      rw [hgr.block _ (lt_of_heapA h3) (hne _ (by omega))]
      exact h3
    · rw [hgr.block _ (lt_of_heapA h4) (hne _ (by omega))]
      exact h4
    · exact ⟨hgr.os.trans h5.os, hgr.tape.trans h5.tape, hgr.output.trans h5.output, Nat.le_trans h5.size hgr.size, fun j hj => (hgr.block j (by have := h5.size; omega) (hne _ (by omega))).trans (h5.block j hj)⟩
  case hAx =>
    rintro x a' _ X Y row ⟨Bx, h1, h2, h3⟩ hgr hr'
    refine ⟨Bx, h1, ?_, h3⟩
    unfold Box at h2 ⊢
    rw [hgr.block Bx (lt_of_heapA h2) (fun e' => ?_)]
    · exact h2
    · obtain ⟨_, o, ho, hcc⟩ := hr' Bx e'.symm; rw [h2] at ho; cases ho; cases hcc
  case assign =>
    rintro l pre x W K ⟨xa5, ya5, xc5, yc5, D, hD, hst⟩ hK
    have hsW := hst.bt.size
    gi_wp2
    refine hK _ _ ((KeepsOthers.alloc _ _).from _) ⟨Below.heap_alloc _ _ _ (by omega), Below.heap_alloc _ _ _ (by omega)⟩ ⟨_, _, _, _, D, hD, hst.grown (World.grownBy_alloc W _ none) (fun r e => by cases e)⟩ ⟨W.heap.size, hsW, box_new W _ _ _, rfl⟩
  case body =>
    rintro l pre x a' W hl _ ⟨xa5, ya5, xc5, yc5, D, hD, hst⟩ ⟨Bx, hBx, hX, rfl⟩ hlt
    have HD : Hid (accR g t R M pre = (0, D)) := hD
    have HST : Hid (RdI w6 W w.heap.size w4.heap.size (.slice xa5 t.length xc5) (.slice ya5 D.length yc5) t D) := hst
    have hi : M - 1 - x.1 < M + 1 := by omega
    obtain ⟨_, _, hAi⟩ := HXX.out (M - 1 - x.1) hi
    have BWW : Hid (Below w2.heap.size w2 W) := BW6.out.trans (hst.bt.below (by omega) (by omega))
    have HAI : Hid (ArrI W (.agg #[.slice (xa (M - 1 - x.1)) t.length (xc (M - 1 - x.1)), .slice (ya (M - 1 - x.1)) (rg (M - 1 - x.1)).length (yc (M - 1 - x.1))]) t (rg (M - 1 - x.1))) := hAi.keep BWW.out
    have HRI : Hid ((rg (M - 1 - x.1)).length ≤ 1048576) := by have := hRD _ hi; show _ ≤ _; omega
    have HDL : Hid (D.length ≤ 1048576) := by
      have q := accR_len (g := g) (t := t) (R := R) (m := M) (by rw [← HRG.out]; exact hRD M (by omega)) pre
      rw [hD] at q
      show _ ≤ _
      simp only [] at q
      omega
    have HSN : Hid (accR g t R M (pre ++ [x]) = (eachTwoC g t (rg (M - 1 - x.1)) t D, eachTwoD g t (rg (M - 1 - x.1)) t D)) := by show _ = _; rw [HRG.out]; exact accR_snoc x hD
    have HE : Hid (Calls Try.prog 9 #[.int .i64 g, .agg #[.slice (xa (M - 1 - x.1)) t.length (xc (M - 1 - x.1)), .slice (ya (M - 1 - x.1)) (rg (M - 1 - x.1)).length (yc (M - 1 - x.1))], .agg #[.slice xa5 t.length xc5, .slice ya5 D.length yc5]] W fun r w' => ∃ v', r = .returned (.tuple #[v', .int .i64 (eachTwoC g t (rg (M - 1 - x.1)) t D)]) ∧ Arr W.heap.size w'.heap.size w' v' (eachTwoS g t (rg (M - 1 - x.1)) t D) (eachTwoD g t (rg (M - 1 - x.1)) t D) ∧ Below W.heap.size W w') := eachTwo_impl HAI.out hst.arrI HTL.out HRI.out HTL.out HDL.out
    have HSH : Hid (eachTwoC g t (rg (M - 1 - x.1)) t D = 0 → eachTwoS g t (rg (M - 1 - x.1)) t D = t) := row_shape
    obtain ⟨C, hC⟩ : ∃ C, C = eachTwoC g t (rg (M - 1 - x.1)) t D := ⟨_, rfl⟩
    obtain ⟨S', hS'⟩ : ∃ S', S' = eachTwoS g t (rg (M - 1 - x.1)) t D := ⟨_, rfl⟩
    obtain ⟨D', hD'⟩ : ∃ D', D' = eachTwoD g t (rg (M - 1 - x.1)) t D := ⟨_, rfl⟩
    rw [← hC, ← hS', ← hD'] at HE
    rw [← hC, ← hS'] at HSH
    rw [← hC, ← hD'] at HSN
    have s6 := hst.bt.size
    have x0 := hX.c0
    have x1 := hX.c1
    have z0 := hst.z.c0
    have z1 := hst.z.c1
    have g0 : W.cell? ⟨o, 0, none⟩ = some (.int .i64 g) := (hst.bt.cell (p := ⟨o, 0, none⟩) (by show o < w6.heap.size; omega) (by show o ≠ w4.heap.size; omega)).trans G6.out
    clear hC hS' hD' hD hAi hst
    gi_wp2_with fail
    refine ⟨trivial, (CallsIn.inRound l (callsIn_wide.2 HE.out)).mono ?_⟩
    rintro rr w7 ⟨v7, rfl, ha7, hb7⟩
    obtain ⟨x7, xc7, y7, yc7, rfl, _, _, _, _⟩ := ha7.arrI
    have A7 : Hid (Arr W.heap.size w7.heap.size w7 (.agg #[.slice x7 S'.length xc7, .slice y7 D'.length yc7]) S' D') := ha7
    have B7 : Hid (Below W.heap.size W w7) := hb7
    have s7 := hb7.size
    clear ha7 hb7 x0 x1 z0 z1 g0
    by_cases hc : C = 0
    · obtain rfl : S' = t := HSH.out hc
      have hcb : (C != 0) = false := by simpa using hc
      have BO : Hid (∀ O, Below W.heap.size W (w7.alloc O)) := fun O => bAlloc B7.out O
      have n0 : ∀ O : Obj, (w7.alloc O).cell? ⟨w4.heap.size, 0, none⟩ = some (.slice xa5 S'.length xc5) := fun O => (HST.out.z.keep (BO.out O)).c0
      have n1 : ∀ O : Obj, (w7.alloc O).cell? ⟨w4.heap.size, 1, none⟩ = some (.slice ya5 D.length yc5) := fun O => (HST.out.z.keep (BO.out O)).c1
      have f0 : ∀ O : Obj, (w7.alloc O).frozen? ⟨w4.heap.size, 0, none⟩ = false := fun O => free_at (HST.out.z.keep (BO.out O)) 0
      have f1 : ∀ O : Obj, (w7.alloc O).frozen? ⟨w4.heap.size, 1, none⟩ = false := fun O => free_at (HST.out.z.keep (BO.out O)) 1
      have HAC : Hid (accR g S' R M (pre ++ [x]) = (0, D')) := by show _ = _; rw [HSN.out, hc]
      clear hc
      gi_wp2
      refine ⟨keepsFrom_put (BO.out _) (by omega), keepsTwo_put (BO.out _) (by omega) (by omega) (by omega) (by omega), _, _, _, _, D', HAC.out, HST.out.put (C := w7.heap.size) (BO.out _) (A7.out.keep (bAlloc (Below.refl _ _) _)) (by simp) (by omega)⟩
    · have hcb : (C != 0) = true := by simpa using hc
      have BO : Hid (∀ O, Below W.heap.size W (w7.alloc O)) := fun O => bAlloc B7.out O
      have RX : Hid (∀ O, Box (w7.alloc O) (w.heap.size + 1) (.slice none 0 0) (.slice none 0 0) 26) := fun O => (box_but R36.out HST.out.bt (by omega)).keep (BO.out O)
      have RY : Hid (∀ O, (w7.alloc O).heap[w.heap.size + 2]? = some (.cells #[.int .i64 0] 3 (0, 0))) := fun O => ((BO.out O).block _ (by omega)).trans ((HST.out.bt.block _ (by omega) (by omega)).trans R46.out)
      have n0 : ∀ O : Obj, (w7.alloc O).cell? ⟨w.heap.size + 1, 0, none⟩ = some (.slice none 0 0) := fun O => (RX.out O).c0
      have n1 : ∀ O : Obj, (w7.alloc O).cell? ⟨w.heap.size + 1, 1, none⟩ = some (.slice none 0 0) := fun O => (RX.out O).c1
      have f0 : ∀ O : Obj, (w7.alloc O).frozen? ⟨w.heap.size + 1, 0, none⟩ = false := fun O => free_at (RX.out O) 0
      have f1 : ∀ O : Obj, (w7.alloc O).frozen? ⟨w.heap.size + 1, 1, none⟩ = false := fun O => free_at (RX.out O) 1
      have n2 : ∀ O : Obj, (w7.alloc O).cell? ⟨w.heap.size + 1 + 1, 0, none⟩ = some (.int .i64 0) := fun O => cell_at (RY.out O) rfl
      have f2 : ∀ O : Obj, (w7.alloc O).frozen? ⟨w.heap.size + 1 + 1, 0, none⟩ = false := fun O => free_at (RY.out O) 0
      have HCN : Hid (C ≠ 0) := hc
      clear hc
      have HWW : Hid (Below w.heap.size w W) := (bTrans B2.out BW6.out).trans (HST.out.bt.below (by omega) (by omega))
      gi_wp2
      obtain ⟨k1, k2, k3, k4⟩ := red_bad (C := C) (B := w6.heap.size) rfl (BO.out _) (bTrans HWW.out (BO.out _)) (RX.out _) (RY.out _) (by omega)
      exact ⟨k1, rfl, C, HCN.out, by rw [HSN.out], k2, k3, k4⟩
  case done =>
    rintro D' zs W hD' rfl ⟨xa5, ya5, xc5, yc5, D, hD, hst⟩ hK
    have HST : Hid (RdI w6 W w.heap.size w4.heap.size (.slice xa5 t.length xc5) (.slice ya5 D.length yc5) t D) := hst
    have hR : redL g t R = (0, D) := by
      have q := accR_to (g := g) (t := t) HRL.out M (Nat.le_refl _)
      rw [List.take_of_length_le (by simp), Nat.sub_self, List.drop_zero, hD] at q
      exact q.symm
    obtain ⟨rfl, rfl, rfl⟩ := EG.out _ hR
    have s6 := hst.bt.size
    have RX : Hid (Box W (w.heap.size + 1) (.slice none 0 0) (.slice none 0 0) 26) := box_but R36.out hst.bt (by omega)
    have RY : Hid (W.heap[w.heap.size + 2]? = some (.cells #[.int .i64 0] 3 (0, 0))) := (hst.bt.block _ (by omega) (by omega)).trans R46.out
    have z0 := hst.z.c0
    have z1 := hst.z.c1
    have n0 := RX.out.c0
    have n1 := RX.out.c1
    have f0 : W.frozen? ⟨w.heap.size + 1, 0, none⟩ = false := free_at RX.out 0
    have f1 : W.frozen? ⟨w.heap.size + 1, 1, none⟩ = false := free_at RX.out 1
    have n2 : W.cell? ⟨w.heap.size + 1 + 1, 0, none⟩ = some (.int .i64 0) := cell_at RY.out rfl
    have f2 : W.frozen? ⟨w.heap.size + 1 + 1, 0, none⟩ = false := free_at RY.out 0
    have HWW : Hid (Below w.heap.size w W) := (bTrans B2.out BW6.out).trans (hst.bt.below (by omega) (by omega))
    clear hD hst
    gi_wp2
    obtain ⟨B, C, ha, hB, hC, _⟩ := HST.out.a
    obtain ⟨V, hV, k1, k2, k3, k4, k5, k6⟩ := red_good (D' := D') rfl HWW.out RX.out RY.out ha hB (by omega) hK
    rw [← hV]
    obtain ⟨m1, m2, m3, m4⟩ := red_ret (w := w) (N0 := w.heap.size) (D' := D') (by omega) k1 k2 k3 k4
    refine ⟨by simp, .inl ⟨_, _, rfl, run_takeDeferred k1, ?_⟩⟩
    refine ⟨_, results_arr_int rfl _ _ (w.heap.size + 1) (w.heap.size + 1 + 1) _ _ _ rfl rfl m1 m2, _, rfl, (m4 _ _ _ _ _ k5).mono (by omega) ?_, m3⟩
    have := (grownBy_putObj' V D' (.deferred none)).size
    omega
  case stop =>
    rintro D' c' pre W hD' hSp ⟨rfl, C, h1, h2, h3, h4, h5⟩ hK
    obtain ⟨k, hk, rfl⟩ := hSp
    have hR : redL g t R = (C, []) := by
      have q := accR_to (g := g) (t := t) HRL.out k hk
      have h2' : (accR g t R M ((List.finRange M).take k)).1 = C := h2
      rw [q] at h2'
      have q2 := redL_left (g := g) (t := t) R (M - k) (by rw [h2']; exact h1)
      rw [h2'] at q2
      exact q2
    obtain ⟨rfl, rfl, rfl⟩ := EB.out _ h1 hR
    gi_wp2
    obtain ⟨m1, m2, m3, m4⟩ := red_ret (w := w) (N0 := w.heap.size) (D' := D') (by omega) hK h3 h4 h5
    refine ⟨by simp, .inl ⟨_, _, rfl, run_takeDeferred hK, ?_⟩⟩
    exact ⟨_, results_arr_int rfl _ _ (w.heap.size + 1) (w.heap.size + 1 + 1) _ _ _ rfl rfl m1 m2, _, rfl, arr_zero _ _ _, m3⟩
end Go.Proofs.Ytdobohobhpailaa
namespace Go.Proofs.Ytdobohobhpailaa
open Go.RowKit
set_option linter.unusedVariables false
set_option linter.unusedSimpArgs false
set_option maxHeartbeats 1000000 in
/-- reducing. -/
theorem reducing_impl (g : Int) (w : World) :
    Calls Try.prog 27 #[.int .i64 g] w fun r w' => r = .returned (.func (.func 46) #[] #[.pointer (some ⟨w.heap.size, 0, none⟩)]) ∧ w' = w.alloc (.cells #[.int .i64 g] 3) := by
  go_enter Try.func27, Try.ntmps27
  go_wp2
  go_ret
  exact ⟨rfl, rfl⟩
set_option maxRecDepth 20000 in
set_option maxHeartbeats 4000000 in
/-- alongRows, whatever the operator is. -/
theorem along_impl {g C : Int} {s d S D : List Int} {w : World} {v p : Value} {f : Nat} (hE : ∀ (args : Array Value) (w : World), (callFunc f args).run Try.prog w = .ok (.enter f args) w) (hA : ArrI w v s d) (hs : s.length ≤ 1048576) (hd : d.length ≤ 1048576)
    (hbad : ¬ (sign2 g = true ∧ arrOk s d = true) → C = 1 ∧ S = [] ∧ D = []) (hnil : sign2 g = true ∧ arrOk s d = true → s = [] → C = 0 ∧ S = [] ∧ D = d)
    (hV : ∀ (W : World) (u : Value), sign2 g = true → arrOk s d = true → s ≠ [] → Below w.heap.size w W → ArrI W u s d → Calls Try.prog f #[u, p] W fun r W' => ∃ v', r = .returned (.tuple #[v', .int .i64 C]) ∧ Arr W.heap.size W'.heap.size W' v' S D ∧ Below W.heap.size W W') :
    Calls Try.prog 26 #[.int .i64 g, v, .func (.func f) #[] #[p]] w fun r w' => ∃ v', r = .returned (.tuple #[v', .int .i64 C]) ∧ Arr w.heap.size w'.heap.size w' v' S D ∧ Below w.heap.size w w' := by
  have H : Hid (ArrI w v s d) := hA
  obtain ⟨a, c, b, e, rfl, _, _, _, _⟩ := hA
  have HD : Hid (d.length ≤ 1048576) := hd
  have HS : Hid (s.length ≤ 1048576) := hs
  have HV : Hid (∀ (W : World) (u : Value), sign2 g = true → arrOk s d = true → s ≠ [] → Below w.heap.size w W → ArrI W u s d → Calls Try.prog f #[u, p] W fun r W' => ∃ v', r = .returned (.tuple #[v', .int .i64 C]) ∧ Arr W.heap.size W'.heap.size W' v' S D ∧ Below W.heap.size W W') := hV
  have Hbad : Hid (¬ (sign2 g = true ∧ arrOk s d = true) → C = 1 ∧ S = [] ∧ D = []) := hbad
  have Hnil : Hid (sign2 g = true ∧ arrOk s d = true → s = [] → C = 0 ∧ S = [] ∧ D = d) := hnil
  clear hV hbad hnil hd hs
  obtain ⟨W1, hW1⟩ : ∃ W1, W1 = (w.alloc (.cells #[.slice a s.length c, .slice b d.length e] 26)).alloc (.cells #[.slice none 0 0, .slice none 0 0] 26) := ⟨_, rfl⟩
  have BW1 : Hid (Below w.heap.size w W1) := by rw [hW1]; exact bAlloc (bAlloc (Below.refl _ _) _) _
  have X1 : Hid (Box W1 w.heap.size (.slice a s.length c) (.slice b d.length e) 26) := by rw [hW1]; exact heap_alloc2_old w _ _
  have Y1 : Hid (Box W1 (w.heap.size + 1) (.slice none 0 0) (.slice none 0 0) 26) := by rw [hW1]; exact heap_alloc2_new w _ _
  go_enter Try.func26, Try.ntmps26
  go_wp2_with fail
  rw [← hW1]
  clear hW1
  refine (knownTwo_impl g _).mono ?_
  rintro r w2 ⟨rfl, hb⟩
  have B2 : Hid (Below w.heap.size w w2) := bTrans BW1.out hb
  have X2 : Hid (Box w2 w.heap.size (.slice a s.length c) (.slice b d.length e) 26) := X1.out.keep hb
  have Y2 : Hid (Box w2 (w.heap.size + 1) (.slice none 0 0) (.slice none 0 0) 26) := Y1.out.keep hb
  clear hb
  cases hg : sign2 g with
  | false =>
    obtain ⟨rfl, rfl, rfl⟩ := Hbad.out (by rw [hg]; simp)
    have y3 := Y2.out.c0
    have y4 := Y2.out.c1
    have f0 := free_at Y2.out 0
    have f1 := free_at Y2.out 1
    have HRR : Hid (_ = _) := arr_stored (x' := .slice none 0 0) (y' := .slice none 0 0) Y2.out
    go_wp2
    refine bodyPost_ret (results_arr_tmp Try.results26 _ _ (w.heap.size + 1) _ _ rfl HRR.out) rfl ?_
    exact ⟨_, rfl, arr_zero _ _ _, below_setCell (below_setCell B2.out (by omega) _ _) (by omega) _ _⟩
  | true =>
    have HG : Hid (sign2 g = true) := hg
    have x0 := X2.out.c0
    have x1 := X2.out.c1
    clear hg
    go_wp2_with fail
    refine (arrOk_impl (H.out.keep B2.out) HD.out).mono ?_
    rintro r w3 ⟨rfl, hb⟩
    have B3 : Hid (Below w.heap.size w w3) := bTrans B2.out hb
    have X3 : Hid (Box w3 w.heap.size (.slice a s.length c) (.slice b d.length e) 26) := X2.out.keep hb
    have Y3 : Hid (Box w3 (w.heap.size + 1) (.slice none 0 0) (.slice none 0 0) 26) := Y2.out.keep hb
    clear hb x0 x1
    cases ho : arrOk s d with
    | false =>
      obtain ⟨rfl, rfl, rfl⟩ := Hbad.out (by rw [ho]; simp)
      have y3 := Y3.out.c0
      have y4 := Y3.out.c1
      have f0 := free_at Y3.out 0
      have f1 := free_at Y3.out 1
      have HRR : Hid (_ = _) := arr_stored (x' := .slice none 0 0) (y' := .slice none 0 0) Y3.out
      go_wp2
      refine bodyPost_ret (results_arr_tmp Try.results26 _ _ (w.heap.size + 1) _ _ rfl HRR.out) rfl ?_
      exact ⟨_, rfl, arr_zero _ _ _, below_setCell (below_setCell B3.out (by omega) _ _) (by omega) _ _⟩
    | true =>
      have HO : Hid (arrOk s d = true) := ho
      have L3 : Hid (w.heap.size + 1 < w3.heap.size) := Y3.out.lt
      have x0 := X3.out.c0
      have x1 := X3.out.c1
      clear ho
      by_cases hs0 : s = []
      · obtain ⟨rfl, rfl, rfl⟩ := Hnil.out ⟨HG.out, HO.out⟩ hs0
        subst hs0
        have hl0 : (((0 : Nat) : Int) == 0) = true := rfl
        simp only [List.length_nil] at x0
        go_wp2_with fail
        refine (copyOf_impl (H.out.keep B3.out) HS.out HD.out).mono ?_
        rintro r w4 ⟨v4, rfl, ha, hb⟩
        obtain ⟨xa, xc, ya, yc, rfl, _, _, _, _⟩ := ha.arrI
        have HA : Hid (Arr w3.heap.size w4.heap.size w4 (.agg #[.slice xa 0 xc, .slice ya D.length yc]) [] D) := ha
        have B4 : Hid (Below w.heap.size w w4) := bTrans B3.out hb
        have Y4 : Hid (Box w4 (w.heap.size + 1) (.slice none 0 0) (.slice none 0 0) 26) := Y3.out.keep hb
        clear ha hb x0 x1
        simp only [List.length_nil]
        have y3 := Y4.out.c0
        have y4 := Y4.out.c1
        have f0 := free_at Y4.out 0
        have f1 := free_at Y4.out 1
        have HRR : Hid (_ = _) := arr_stored (x' := .slice xa 0 xc) (y' := .slice ya D.length yc) Y4.out
        go_wp2
        refine bodyPost_ret (results_arr_tmp Try.results26 _ _ (w.heap.size + 1) _ _ rfl HRR.out) rfl ?_
        refine ⟨_, rfl, ?_, below_setCell (below_setCell B4.out (by omega) _ _) (by omega) _ _⟩
        have L := L3.out
        exact ((HA.out.setCell (by omega) _ _).setCell (by omega) _ _).mono (by omega) (by simp only [size_setCell]; omega)
      · have n1 : ((s.length : Int) == 0) = false := by
          have := List.length_pos_iff.2 hs0
          simp; omega
        have HS0 : Hid (s ≠ []) := hs0
        clear hs0
        go_wp2_with fail
        refine (HV.out _ _ HG.out HO.out HS0.out B3.out (H.out.keep B3.out)).mono ?_
        rintro r w4 ⟨v4, rfl, ha, hb⟩
        obtain ⟨xa, xc, ya, yc, rfl, _, _, _, _⟩ := ha.arrI
        have HA : Hid (Arr w3.heap.size w4.heap.size w4 (.agg #[.slice xa S.length xc, .slice ya D.length yc]) S D) := ha
        have B4 : Hid (Below w.heap.size w w4) := bTrans B3.out hb
        have Y4 : Hid (Box w4 (w.heap.size + 1) (.slice none 0 0) (.slice none 0 0) 26) := Y3.out.keep hb
        clear ha hb x0 x1
        have y3 := Y4.out.c0
        have y4 := Y4.out.c1
        have f0 := free_at Y4.out 0
        have f1 := free_at Y4.out 1
        have HRR : Hid (_ = _) := arr_stored (x' := .slice xa S.length xc) (y' := .slice ya D.length yc) Y4.out
        go_wp2
        refine bodyPost_ret (results_arr_tmp Try.results26 _ _ (w.heap.size + 1) _ _ rfl HRR.out) rfl ?_
        refine ⟨_, rfl, ?_, below_setCell (below_setCell B4.out (by omega) _ _) (by omega) _ _⟩
        have L := L3.out
        exact ((HA.out.setCell (by omega) _ _).setCell (by omega) _ _).mono (by omega) (by simp only [size_setCell]; omega)
end Go.Proofs.Ytdobohobhpailaa
namespace Go.Proofs.Ytdobohobhpailaa
open Go.RowKit
set_option linter.unusedVariables false
set_option linter.unusedSimpArgs false
theorem ints_tail {w : World} {b off : Nat} {l : List Int} (m : Nat) (h : Ints w (some ⟨b, off, none⟩) l) : Ints w (some ⟨b, off + m, none⟩) (l.drop m) := by
  rcases h with rfl | ⟨b', off', e, hb, hc⟩
  · exact .inl (by simp)
  · cases e
    refine .inr ⟨b, off + m, rfl, hb, fun k hk => ?_⟩
    have := hc (m + k) (by simp at hk; omega)
    rw [Nat.add_assoc, this]
    simp
/-- A list from one number on, and between two, whatever its memory. -/
theorem run_from {a : Option Addr} {n c M : Nat} (hM : M ≤ n) (hc : n ≤ c) (W : World) : (Instr.slice 24 (.slice a n c) (some (.int .i64 (M : Int))) none none).run Try.prog W = .ok (.slice (if c - M = 0 then a else a.map (·.add (M * 1))) (n - M) (c - M)) W := by
  have hs : (sizeOf 3).run Try.prog W = .ok 1 W := by kernel_rfl
  have he : Try.prog.elem 24 = 3 := by kernel_rfl
  rw [run_slice_l (P := Try.prog) (w := W) 24 a n c (by rw [he]; exact Try.underlying24) .i64 (M : Int) (by omega) (by omega), he, hs]
  have e : (c = M) = (c - M = 0) := by apply propext; omega
  simp [Result.andThen, sliced, e]
/-- What a copy makes of a list: m numbers of e from place k on. -/
def paste (l : List Int) (k : Nat) (e : List Int) (m : Nat) : List Int := l.take k ++ e.take m ++ l.drop (k + m)
theorem paste_zero (l : List Int) (k : Nat) (e : List Int) : paste l k e 0 = l := by simp [paste]
theorem paste_length {l e : List Int} {k m : Nat} (h : k + m ≤ l.length) (hm : m ≤ e.length) : (paste l k e m).length = l.length := by simp [paste]; omega
theorem paste_at {l e : List Int} {k m : Nat} (h : k + m ≤ l.length) (hm : m ≤ e.length) (i : Nat) : (paste l k e m).getD i 0 = if i < k then l.getD i 0 else if i < k + m then e.getD (i - k) 0 else l.getD i 0 := by
  have lk : (l.take k).length = k := by simp; omega
  have lm : (e.take m).length = m := by simp; omega
  unfold paste
  simp only [List.getD_eq_getElem?_getD, List.append_assoc]
  by_cases h1 : i < k
  · rw [if_pos h1, List.getElem?_append_left (by omega), List.getElem?_take_of_lt h1]
  · rw [if_neg h1, List.getElem?_append_right (by omega), lk]
    by_cases h2 : i < k + m
    · rw [if_pos h2, List.getElem?_append_left (by omega), List.getElem?_take_of_lt (by omega)]
    · rw [if_neg h2, List.getElem?_append_right (by omega), lm, List.getElem?_drop]
      congr 2
      omega
theorem copy_paste {w : World} {g : Nat} {l e : List Int} {a : Option Addr} {k n : Nat} (h : OwnInts w g l) (hs : Ints w a e) (hfit : k + min e.length n ≤ l.length) (ty : TypeId) (dC c : Nat) :
    (Builtin.copy_ #[24, 24] ty #[.slice (some ⟨g, k, none⟩) n dC, .slice a e.length c]).run Try.prog w = .ok (.int .i64 ((min e.length n : Nat) : Int)) (w.setRow g (vals (paste l k e (min e.length n)))) := by
  by_cases h0 : min e.length n = 0
  · rw [h0, paste_zero, setRow_self w g (vals l) _ _ h]
    exact run_copy_none (P := Try.prog) _ 24 24 ty 3 _ _ _ _ _ _ Try.underlying24 int_size h0
  · rcases hs with rfl | ⟨b, off, rfl, hb, hc⟩
    · simp at h0
    · have hc' : ∀ j, j < (e.take (min e.length n)).length → w.cell? ⟨b, off + j, none⟩ = some (.int .i64 ((e.take (min e.length n)).getD j 0)) := by
        intro j hj
        have hj' : j < min e.length n := by simp at hj; omega
        rw [hc j (by omega)]
        simp only [List.getD_eq_getElem?_getD, List.getElem?_take_of_lt hj']
      have q := run_copy_row Try.prog w 24 24 ty 3 g k n dC ⟨b, off, none⟩ e.length c (vals l) 3 ((e.take (min e.length n)).map (Value.int .i64)) Try.underlying24 int_size h (by simp) (ints_src hc') (by simp [vals]; omega) (by intro v hv; obtain ⟨x, _, rfl⟩ := List.mem_map.1 hv; rfl)
      rw [q, List.length_map, List.length_take, Nat.min_eq_left (Nat.min_le_left _ _)]
      simp [paste, vals, goInt]
theorem OwnInts.setRow {w : World} {g : Nat} {l : List Int} (h : OwnInts w g l) (l' : List Int) : OwnInts (w.setRow g (vals l')) g l' := setRow_heap w g _ _ _ _ h
end Go.Proofs.Ytdobohobhpailaa
namespace Go.Proofs.Ytdobohobhpailaa
open Go.RowKit
set_option linter.unusedVariables false
set_option linter.unusedSimpArgs false
/-- Are all arrays of a list right? -/
def allOkV (F : List (List Int)) (m : Nat) : Bool := (List.range m).all fun i => arrOk (F.getD (2 * i) []) (F.getD (2 * i + 1) [])
theorem allOkV_succ (F : List (List Int)) (m : Nat) : allOkV F (m + 1) = (allOkV F m && arrOk (F.getD (2 * m) []) (F.getD (2 * m + 1) [])) := by
  unfold allOkV; rw [List.range_succ, List.all_append]; simp
theorem allOkV_no {F : List (List Int)} {m k : Nat} (hk : k < m) (h : arrOk (F.getD (2 * k) []) (F.getD (2 * k + 1) []) = false) : allOkV F m = false := by
  unfold allOkV
  rw [List.all_eq_false]
  exact ⟨k, by simpa using hk, by rw [h]; decide⟩
set_option maxRecDepth 20000 in
set_option maxHeartbeats 1000000 in
/-- allOk. -/
theorem allOk_impl {F : List (List Int)} {w : World} {m ca : Nat} {aa : Option Addr} (hA : ArrsI w (.slice aa m ca) F) (hm : m ≤ 2) (hL : ∀ j, (F.getD j []).length ≤ 1048576) :
    Calls Try.prog 18 #[.slice aa m ca] w fun r w' => r = .returned (.bool (allOkV F m)) ∧ Below w.heap.size w w' := by
  have HA : Hid (ArrsI w (.slice aa m ca) F) := hA
  have HL : Hid (∀ j, (F.getD j []).length ≤ 1048576) := hL
  clear hA hL
  go_enter Try.func18, Try.ntmps18
  go_wp2
  go_loopw [7] (fun i w' => ∃ k : Nat, k ≤ m ∧ i = .int .i64 (k : Int) ∧ allOkV F k = true ∧ Below w.heap.size w w') (fun i _ => m - (intOf i).toNat)
  case atStart => exact ⟨0, by omega, rfl, rfl, Below.refl _ _⟩
  case round =>
    obtain ⟨j, hk, rfl, ht, hb⟩ := hrel
    have HT : Hid (allOkV F j = true) := ht
    have HB : Hid (Below w.heap.size w wr) := hb
    clear ht hb
    by_cases hlt : (j : Int) < (m : Int)
    · obtain ⟨o, off, sx, sy, rfl, ho, p0, p1, i0, i1⟩ := (HA.out.keep HB.out).at (k := j) (by omega)
      obtain ⟨ax, cx, rfl, gix, ix⟩ := i0
      obtain ⟨ay, cy, rfl, giy, iy⟩ := i1
      have A1 : Hid (ArrI wr (.agg #[.slice ax (F.getD (2 * j) []).length cx, .slice ay (F.getD (2 * j + 1) []).length cy]) (F.getD (2 * j) []) (F.getD (2 * j + 1) [])) := ⟨_, _, _, _, rfl, ix, iy, gix, giy⟩
      have HC : Hid (∀ W, Below wr.heap.size wr W → Calls Try.prog 41 #[.agg #[.slice ax (F.getD (2 * j) []).length cx, .slice ay (F.getD (2 * j + 1) []).length cy]] W fun e w' => e = .returned (.bool (arrOk (F.getD (2 * j) []) (F.getD (2 * j + 1) []))) ∧ Below W.heap.size W w') := fun W h => arrOk_impl (A1.out.keep h) (HL.out _)
      have HY : Hid (arrOk (F.getD (2 * j) []) (F.getD (2 * j + 1) []) = true → allOkV F (j + 1) = true) := fun h => by rw [allOkV_succ, HT.out, h]; rfl
      have HN : Hid (arrOk (F.getD (2 * j) []) (F.getD (2 * j + 1) []) = false → allOkV F m = false) := fun h => allOkV_no (by omega) h
      clear ix iy gix giy A1
      generalize (F.getD (2 * j) []).length = ls at *
      generalize (F.getD (2 * j + 1) []).length = ld at *
      generalize arrOk (F.getD (2 * j) []) (F.getD (2 * j + 1) []) = q at *
      cases q
      · have HN' : Hid (allOkV F m = false) := HN.out rfl
        clear HN HY
        go_wp2_with fail
        refine (HC.out _ (bAlloc (Below.refl _ _) _)).mono ?_
        rintro r w2 ⟨rfl, hb⟩
        have HB2 : Hid (Below w.heap.size w w2) := bTrans HB.out (bTrans (bAlloc (Below.refl _ _) _) hb)
        clear hb
        go_wp2
        go_ret
        exact ⟨by rw [HN'.out]; rfl, HB2.out⟩
      · have HY' : Hid (allOkV F (j + 1) = true) := HY.out rfl
        clear HN HY
        go_wp2_with fail
        refine (HC.out _ (bAlloc (Below.refl _ _) _)).mono ?_
        rintro r w2 ⟨rfl, hb⟩
        have HB2 : Hid (Below w.heap.size w w2) := bTrans HB.out (bTrans (bAlloc (Below.refl _ _) _) hb)
        clear hb
        go_wp2
        go_roundw
        case rel => exact ⟨j + 1, by omega, by go_num, HY'.out, HB2.out⟩
        case measure => simp [intOf]; omega
    · obtain rfl : j = m := by omega
      go_wp2
      go_ret
      exact ⟨by rw [HT.out]; rfl, HB.out⟩
set_option maxRecDepth 20000 in
set_option maxHeartbeats 1000000 in
/-- vectorCopy. -/
theorem vecCopy_impl {l : List Int} {w : World} {v : Value} (h : IntsI w v l) (hl : l.length ≤ 1048576) :
    Calls Try.prog 66 #[v] w fun r w' => ∃ v', r = .returned v' ∧ Arr w.heap.size w'.heap.size w' v' [(l.length : Int)] l ∧ Below w.heap.size w w' := by
  obtain ⟨a, c, rfl, g, i⟩ := h
  have HI : Hid (IntsI w (.slice a l.length c) l) := ⟨a, c, rfl, g, i⟩
  have HC : Hid (∀ W, Below w.heap.size w W → Calls Try.prog 42 #[.slice a l.length c] W fun e w' => ∃ a' c', e = .returned (.slice a' l.length c') ∧ Piece W.heap.size w'.heap.size w' (.slice a' l.length c') l ∧ Below W.heap.size W w') := fun W h => copied_new (HI.out.keep h) hl
  clear g i
  go_enter Try.func66, Try.ntmps66
  go_wp2_with fail
  refine (HC.out _ (bAlloc (bAlloc (Below.refl _ _) _) _)).mono ?_
  rintro r w1 ⟨a2, c2, rfl, hp, hb⟩
  have HP : Hid (Piece (w.heap.size + 2) w1.heap.size w1 (.slice a2 l.length c2) l) := by show Piece _ _ _ _ _; simpa using hp
  have HB : Hid (Below w.heap.size w w1) := bTrans (bAlloc (bAlloc (Below.refl _ _) _) _) hb
  have Y : Hid (Box w1 w.heap.size (.slice none 0 0) (.slice none 0 0) 26) := ((box_new w _ _ _).keep (bAlloc (Below.refl _ _) _)).keep hb
  have PS : Hid (Piece (w.heap.size + 1) (w.heap.size + 2) w1 (.slice (some ⟨w.heap.size + 1, 0, none⟩) 1 1) [(l.length : Int)]) := by
    have p := OwnInts.piece (ownInts_new (w.alloc (.cells #[.slice none 0 0, .slice none 0 0] 26)) [(l.length : Int)]) (B := w.heap.size + 1) (C := w.heap.size + 2) (by simp) (by simp) 1
    have p' : Piece (w.heap.size + 1) (w.heap.size + 2) ((w.alloc (.cells #[.slice none 0 0, .slice none 0 0] 26)).alloc (.cells #[.int .i64 (l.length : Int)] 3)) (.slice (some ⟨w.heap.size + 1, 0, none⟩) 1 1) [(l.length : Int)] := by simpa [vals] using p
    exact p'.keep hb
  have LT : Hid (w.heap.size + 2 ≤ w1.heap.size) := by have := hb.size; show _ ≤ _; simpa using this
  clear hp hb
  have y0 := Y.out.c0
  have y1 := Y.out.c1
  have f0 : w1.frozen? ⟨w.heap.size, 0, none⟩ = false := free_at Y.out 0
  have f1 : w1.frozen? ⟨w.heap.size, 1, none⟩ = false := free_at Y.out 1
  have HR : Hid (((w1.setCell ⟨w.heap.size, 0, none⟩ (.slice (some ⟨w.heap.size + 1, 0, none⟩) 1 1)).setCell ⟨w.heap.size, 1, none⟩ (.slice a2 l.length c2)).heap[w.heap.size]? = some (.cells #[.slice (some ⟨w.heap.size + 1, 0, none⟩) 1 1, .slice a2 l.length c2] 26 (0, 0))) := arr_stored Y.out
  go_wp2
  refine bodyPost_ret (v := .agg #[.slice (some ⟨w.heap.size + 1, 0, none⟩) 1 1, .slice a2 l.length c2]) (results_arr rfl _ _ w.heap.size _ _ rfl HR.out) rfl ?_
  refine ⟨_, rfl, ?_, below_setCell (below_setCell HB.out (Nat.le_refl _) _ _) (Nat.le_refl _) _ _⟩
  have L := LT.out
  have p1' := (PS.out.win (win_setCell w1 w.heap.size 0 (.slice (some ⟨w.heap.size + 1, 0, none⟩) 1 1)) (.inr (by omega))).win (win_setCell _ w.heap.size 1 (.slice a2 l.length c2)) (.inr (by omega))
  have p2' := (HP.out.win (win_setCell w1 w.heap.size 0 (.slice (some ⟨w.heap.size + 1, 0, none⟩) 1 1)) (.inr (by omega))).win (win_setCell _ w.heap.size 1 (.slice a2 l.length c2)) (.inr (by omega))
  exact ⟨_, _, rfl, p1'.mono (by omega) (by simp only [size_setCell]; omega), p2'.mono (by omega) (by simp only [size_setCell]; omega), p1'.apart p2' (.inl (by omega))⟩
/-- What soleNumber tells: a code, and the number beside it. -/
def soleC (s d : List Int) (q : Bool) : Int := if arrOk s d = true ∧ q = true then (if d.length ≠ 1 then 3 else 0) else 1
def soleV (s d : List Int) (q : Bool) : Int := if soleC s d q = 0 then d.getD 0 0 else 0
/-- The shape as withRows has it. -/
def rowsS (s : List Int) : List Int := if s = [] then [1] else s
set_option maxRecDepth 20000 in
set_option maxHeartbeats 2000000 in
/-- withRows. -/
theorem withRows_impl {s d : List Int} {w : World} {v : Value} (h : ArrI w v s d) (hs : s.length ≤ 1048576) :
    Calls Try.prog 19 #[v] w fun r w' => ∃ v', r = .returned v' ∧ ArrI w' v' (rowsS s) d ∧ Below w.heap.size w w' := by
  have H : Hid (ArrI w v s d) := h
  obtain ⟨a, c, b, e, rfl, ia, ib, ga, gb⟩ := h
  by_cases h0 : s = []
  · have HS : Hid (rowsS s = [1]) := by show _ = _; unfold rowsS; rw [if_pos h0]
    have HI : Hid (Ints w b d ∧ d.length ≤ e) := ⟨ib, gb⟩
    subst h0
    clear ia ib ga gb H
    rw [HS.out]
    simp only [List.length_nil]
    go_enter Try.func19, Try.ntmps19
    go_wp2
    refine bodyPost_ret (v := .agg #[.slice (some ⟨w.heap.size + 2, 0, none⟩) 1 1, .slice b d.length e]) (results_arr rfl _ _ (w.heap.size + 1) _ _ rfl ?_) rfl ?_
    · exact (box_new2 w _ _ _ _).keep (bAlloc (Below.refl _ _) _)
    · refine ⟨_, rfl, ⟨_, 1, b, e, rfl, ?_, ?_, by simp, HI.out.2⟩, bAlloc (bAlloc (bAlloc (Below.refl _ _) _) _) _⟩
      · have q := ints_new ((w.alloc (.cells #[.slice a 0 c, .slice b d.length e] 26)).alloc (.cells #[.slice (some ⟨w.heap.size + 1 + 1, 0, none⟩) 1 1, .slice b d.length e] 26)) [1] 3
        simpa [vals] using q
      · exact ((HI.out.1.alloc _).alloc _).alloc _
  · have HS : Hid (rowsS s = s) := by show _ = _; unfold rowsS; rw [if_neg h0]
    have hne : ((s.length : Int) == 0) = false := by
      have : s.length ≠ 0 := fun h => h0 (List.eq_nil_of_length_eq_zero h)
      simp; exact h0
    have HL : Hid (s.length ≤ 1048576) := hs
    rw [HS.out]
    clear ia ib ga gb h0 hs HS
    generalize s.length = n at *
    go_enter Try.func19, Try.ntmps19
    go_wp2
    refine bodyPost_ret (v := .agg #[.slice a n c, .slice b d.length e]) (results_arr rfl _ _ (w.heap.size + 1) _ _ rfl ?_) rfl ?_
    · exact box_new2 w _ _ _ _
    · exact ⟨_, rfl, H.out.keep (bAlloc (bAlloc (Below.refl _ _) _) _), bAlloc (bAlloc (Below.refl _ _) _) _⟩
set_option maxRecDepth 20000 in
set_option maxHeartbeats 2000000 in
/-- ofRows. -/
theorem ofRows_impl {s : List Int} {w : World} {v : Value} (x : Int) (h : IntsI w v s) (hs : s.length ≤ 1048576) (h0 : s ≠ []) :
    Calls Try.prog 20 #[v, .int .i64 x] w fun r w' => ∃ a' c', r = .returned (.slice a' (x :: s.drop 1).length c') ∧ Piece w.heap.size w'.heap.size w' (.slice a' (x :: s.drop 1).length c') (x :: s.drop 1) ∧ Below w.heap.size w w' := by
  obtain ⟨a, c, rfl, g, i⟩ := h
  have HC : Hid (Calls Try.prog 42 #[.slice a s.length c] w fun e w' => e = .returned (.slice (some ⟨w.heap.size, 0, none⟩) s.length s.length) ∧ w' = w.alloc (.cells (vals s) 3)) := copied_impl c i hs
  have hp : 0 < s.length := by cases s with | nil => exact absurd rfl h0 | cons _ _ => simp
  have hp' : (0 : Int) < (s.length : Int) := by omega
  have EL : Hid ((x :: s.drop 1).length = s.length) := by show _ = _; simp; omega
  have ES : Hid (s.set 0 x = x :: s.drop 1) := by cases s with | nil => exact absurd rfl h0 | cons _ _ => rfl
  have HL : Hid (s.length ≤ 1048576) := hs
  rw [EL.out]
  clear i g hs h0
  go_enter Try.func20, Try.ntmps20
  go_wp2_with fail
  refine HC.out.mono ?_
  rintro r w1 ⟨rfl, hw⟩
  have HB : Hid (Below w.heap.size w w1) := by rw [hw]; exact bAlloc (Below.refl _ _) _
  have HP : Hid (Piece w.heap.size (w.heap.size + 1) w1 (.slice (some ⟨w.heap.size, 0, none⟩) s.length s.length) s) := by
    rw [hw]; exact OwnInts.piece (ownInts_new w s) (Nat.le_refl _) (by simp) _
  have LT : Hid (w.heap.size + 1 ≤ w1.heap.size) := by rw [hw]; show _ ≤ _; simp
  clear hw HC
  obtain ⟨t1, t2, _, _, _⟩ := HP.out.cellAt (k := 0) hp
  rw [Nat.zero_add] at t1 t2
  generalize s.getD 0 0 = z at t1
  go_wp2
  go_ret
  refine ⟨_, _, rfl, ?_, below_setCell HB.out (Nat.le_refl _) _ _⟩
  have q := HP.out.set hp x
  rw [ES.out] at q
  exact q.mono (Nat.le_refl _) (by rw [size_setCell]; exact LT.out)
end Go.Proofs.Ytdobohobhpailaa
namespace Go.Proofs.Ytdobohobhpailaa
open Go.RowKit
set_option linter.unusedVariables false
set_option linter.unusedSimpArgs false
/-- The first k of n places are filled, again and again. -/
def againTo (e : List Int) (n k : Nat) : List Int := (List.range n).map fun i => if i < k then e.getD (i % e.length) 0 else 0
theorem againTo_zero (e : List Int) (n : Nat) : againTo e n 0 = List.replicate n 0 := by
  unfold againTo
  apply List.ext_getElem
  · simp
  · intro i h1 h2; simp
theorem againTo_all {e : List Int} (h : e ≠ []) (n : Nat) : againTo e n n = againD e n := by
  unfold againTo againD
  apply List.map_congr_left
  intro i hi
  rw [if_pos (by simpa using hi), if_neg h]
theorem againD_nil (n : Nat) : againD [] n = List.replicate n 0 := by
  unfold againD
  apply List.ext_getElem
  · simp
  · intro i h1 h2; simp
theorem againTo_length (e : List Int) (n k : Nat) : (againTo e n k).length = n := by simp [againTo]
theorem againTo_at (e : List Int) {n k i : Nat} (hi : i < n) : (againTo e n k).getD i 0 = if i < k then e.getD (i % e.length) 0 else 0 := by
  unfold againTo
  simp [hi]
theorem paste_again {e : List Int} {n k m : Nat} (hk : k % e.length = 0) (hm : m ≤ e.length) (hn : k + m ≤ n) : paste (againTo e n k) k e m = againTo e n (k + m) := by
  apply List.ext_getElem
  · rw [paste_length (by rw [againTo_length]; exact hn) hm, againTo_length, againTo_length]
  · intro i h1 h2
    have hi : i < n := by rwa [againTo_length] at h2
    have q := paste_at (l := againTo e n k) (e := e) (k := k) (m := m) (by rw [againTo_length]; exact hn) hm i
    rw [againTo_at e hi] at q
    have r := againTo_at e (k := k + m) hi
    simp only [List.getD_eq_getElem?_getD] at q r
    rw [List.getElem?_eq_getElem h1] at q
    rw [List.getElem?_eq_getElem h2] at r
    simp only [Option.getD_some] at q r
    rw [q, r]
    by_cases c1 : i < k
    · rw [if_pos c1, if_pos c1, if_pos (by omega)]
    · rw [if_neg c1, if_neg c1]
      by_cases c2 : i < k + m
      · rw [if_pos c2, if_pos c2]
        have : i % e.length = i - k := by
          have e1 : i = k + (i - k) := by omega
          conv => lhs; rw [e1]
          rw [Nat.add_mod, hk, Nat.zero_add, Nat.mod_mod, Nat.mod_eq_of_lt (by omega)]
        rw [this]
      · rw [if_neg c2, if_neg c2]
set_option maxRecDepth 20000 in
set_option maxHeartbeats 2000000 in
/-- againAndAgain. -/
theorem again_impl {e : List Int} {a : Option Addr} {w : World} {n c : Nat} (h : Ints w a e) (he : e.length ≤ 1048576) (hn : n ≤ 1048576) :
    Calls Try.prog 82 #[.slice a e.length c, .int .i64 (n : Int)] w fun r w' => r = .returned (.slice (some ⟨w.heap.size, 0, none⟩) n n) ∧ OwnInts w' w.heap.size (againD e n) ∧ Below w.heap.size w w' := by
  have hmk : ∀ w, (Instr.makeSlice 24 (.int .i64 (n : Int)) (.int .i64 (n : Int))).run Try.prog w = .ok (.slice (some ⟨w.heap.size, 0, none⟩) n n) (w.alloc (.cells (vals (List.replicate n 0)) 3)) := fun w => make_ints n (by omega) w
  obtain ⟨D, hD⟩ : ∃ D, D = againD e n := ⟨_, rfl⟩
  rw [← hD]
  by_cases h0 : e = []
  · have ED : Hid (D = List.replicate n 0) := by show _ = _; rw [hD, h0, againD_nil]
    subst h0
    clear hD
    simp only [List.length_nil]
    go_enter Try.func82, Try.ntmps82
    go_wp2
    go_ret
    refine ⟨rfl, ?_, bAlloc (Below.refl _ _) _⟩
    rw [ED.out]
    exact ownInts_new _ _
  · have ED : Hid (D = againTo e n n) := by show _ = _; rw [hD, againTo_all h0]
    have hl : 0 < e.length := by cases e with | nil => exact absurd rfl h0 | cons _ _ => simp
    have hne : ((e.length : Int) == 0) = false := by simp; exact h0
    have HI : Hid (Ints w a e) := h
    have HP : Hid (∀ k m, k % e.length = 0 → m ≤ e.length → k + m ≤ n → paste (againTo e n k) k e m = againTo e n (k + m)) := fun k m a b c => paste_again a b c
    have HCP : Hid (∀ W g l k r dC, Below w.heap.size w W → OwnInts W g l → k + min e.length r ≤ l.length → (Builtin.copy_ #[24, 24] 3 #[.slice (some ⟨g, k, none⟩) r dC, .slice a e.length c]).run Try.prog W = .ok (.int .i64 ((min e.length r : Nat) : Int)) (W.setRow g (vals (paste l k e (min e.length r))))) := fun W g l k r dC hb ho hf => copy_paste ho (HI.out.keep hb) hf _ dC c
    clear hD h0 h he
    generalize e.length = p at *
    go_enter Try.func82, Try.ntmps82
    go_wp2
    go_loopw [6] (fun i w' => ∃ (k r : Nat) (A : Option Addr), k + r = n ∧ i = .slice A r r ∧ (0 < r → A = some ⟨w.heap.size, k, none⟩ ∧ k % p = 0) ∧ OwnInts w' w.heap.size (againTo e n k) ∧ Below w.heap.size w w') (fun i _ => match i with | .slice _ r _ => r | _ => 0)
    case atStart => exact ⟨0, n, _, by omega, rfl, fun _ => ⟨rfl, by simp⟩, by rw [againTo_zero]; exact ownInts_new _ _, bAlloc (Below.refl _ _) _⟩
    case round =>
      obtain ⟨k, r, A, hkr, rfl, hA, hO, hb⟩ := hrel
      have HK : Hid (k + r = n) := hkr
      have HO : Hid (OwnInts wr w.heap.size (againTo e n k)) := hO
      have HB : Hid (Below w.heap.size w wr) := hb
      by_cases hlt : (0 : Int) < (r : Int)
      · obtain ⟨rfl, hk⟩ := hA (by omega)
        have hcp := HCP.out wr w.heap.size (againTo e n k) k r r hb hO (by rw [againTo_length]; omega)
        rw [HP.out k (min p r) hk (by omega) (by omega)] at hcp
        have HM : Hid (min p r ≤ r ∧ 0 < min p r ∧ (0 < r - min p r → (k + min p r) % p = 0)) := ⟨by omega, by omega, fun h => by
          have : min p r = p := by omega
          rw [this, Nat.add_mod_right, hk]⟩
        generalize min p r = m at *
        have hsl := fun W => run_from (a := some ⟨w.heap.size, k, none⟩) (n := r) (c := r) (M := m) HM.out.1 (Nat.le_refl _) W
        have HO' : Hid (OwnInts (wr.setRow w.heap.size (vals (againTo e n (k + m)))) w.heap.size (againTo e n (k + m))) := hO.setRow _
        have HB' : Hid (Below w.heap.size w (wr.setRow w.heap.size (vals (againTo e n (k + m))))) := below_setRow hb (Nat.le_refl _) _
        clear hA hO hb hkr hk
        generalize hW : wr.setRow w.heap.size (vals (againTo e n (k + m))) = W at *
        clear hW
        go_wp2
        go_roundw
        case rel => exact ⟨k + m, r - m, _, by have := HK.out; have := HM.out; omega, rfl, fun h => ⟨by rw [if_neg (by omega)]; first | done | simp [Addr.add], HM.out.2.2 h⟩, HO'.out, HB'.out⟩
        case measure => have := HM.out; show r - m < r; omega
      · obtain rfl : r = 0 := by omega
        obtain rfl : k = n := by omega
        clear hA hO hb hkr
        go_wp2
        go_ret
        exact ⟨rfl, by rw [ED.out]; exact HO.out, HB.out⟩
/-- belowNought. -/
theorem belowN_impl (x : Int) (w : World) : Calls Try.prog 81 #[.int .i64 x] w fun r w' => r = .returned (.bool (decide (x < 0))) ∧ w' = w := by
  by_cases h : x < 0
  all_goals
    go_enter Try.func81, Try.ntmps81
    go_wp2
    go_ret
    exact ⟨by simp [h], rfl⟩
set_option maxRecDepth 20000 in
set_option maxHeartbeats 2000000 in
/-- slices.IndexFunc over belowNought: where there is one below nought. -/
theorem indexBelow_impl {l : List Int} {a : Option Addr} {w : World} {c : Nat} (h : Ints w a l) (hl : l.length ≤ 1048576) :
    Calls Try.prog 86 #[.slice a l.length c, .func (.func 81) #[] #[]] w fun r w' => ∃ x : Int, r = .returned (.int .i64 x) ∧ (decide (0 ≤ x) = l.any fun x => decide (x < 0)) ∧ w' = w := by
  have HI : Hid (Ints w a l) := h
  have hE : ∀ (args : Array Value) (w : World), (callFunc 81 args).run Try.prog w = .ok (.enter 81 args) w := enters_of Try.func81 (by kernel_rfl) rfl
  clear h
  go_enter Try.func86, Try.ntmps86
  go_wp2
  go_loopw [8] (fun i w' => ∃ k : Nat, k ≤ l.length ∧ i = .int .i64 (k : Int) ∧ ((l.take k).any fun x => decide (x < 0)) = false ∧ w' = w) (fun i _ => l.length - (intOf i).toNat)
  case atStart => exact ⟨0, by omega, rfl, by simp, rfl⟩
  case round =>
    obtain ⟨k, hk, rfl, ht, rfl⟩ := hrel
    have HT : Hid (((l.take k).any fun x => decide (x < 0)) = false) := ht
    clear ht
    by_cases hlt : (k : Int) < (l.length : Int)
    · have L : k < l.length := by omega
      obtain ⟨b1, o1, rfl, _, c1⟩ := HI.out.at L
      have Q : Hid (((l.take (k + 1)).any fun x => decide (x < 0)) = (((l.take k).any fun x => decide (x < 0)) || decide (l.getD k 0 < 0))) := by show _ = _; rw [take_snoc L]; simp
      have QB : Hid (l.getD k 0 < 0 → (l.any fun x => decide (x < 0)) = true) := fun h => by
        rw [List.any_eq_true]
        exact ⟨l.getD k 0, by simp [L], by simpa using h⟩
      clear L
      generalize l.getD k 0 = x at c1 Q QB
      by_cases hx : x < 0
      · have QB' : Hid ((l.any fun x => decide (x < 0)) = true) := QB.out hx
        clear Q QB
        have hd : decide (x < 0) = true := by simp [hx]
        go_wp2_with (go_at_fn 81; refine (belowN_impl x _).mono ?_; rintro r w2 ⟨rfl, hw⟩; subst w2; rw [hd])
        go_ret
        exact ⟨_, rfl, by rw [QB'.out]; simp, rfl⟩
      · have HT' : Hid (((l.take (k + 1)).any fun x => decide (x < 0)) = false) := by show _ = _; rw [Q.out, HT.out]; simpa using hx
        clear Q QB
        have hd : decide (x < 0) = false := by simpa using hx
        go_wp2_with (go_at_fn 81; refine (belowN_impl x _).mono ?_; rintro r w2 ⟨rfl, hw⟩; subst w2; rw [hd])
        go_roundw
        case rel => exact ⟨k + 1, by omega, by go_num, HT'.out, by first | trivial | rfl⟩
        case measure => simp [intOf]; omega
    · have HV : Hid ((l.any fun x => decide (x < 0)) = false) := by
        have h := HT.out
        show _ = _
        rw [List.take_of_length_le (by omega)] at h
        exact h
      go_wp2
      go_ret
      exact ⟨_, rfl, by rw [HV.out]; rfl, rfl⟩
set_option maxRecDepth 20000 in
set_option maxHeartbeats 2000000 in
/-- slices.ContainsFunc over belowNought. -/
theorem containsBelow_impl {l : List Int} {a : Option Addr} {w : World} {c : Nat} (h : Ints w a l) (hl : l.length ≤ 1048576) :
    Calls Try.prog 80 #[.slice a l.length c, .func (.func 81) #[] #[]] w fun r w' => r = .returned (.bool (l.any fun x => decide (x < 0))) ∧ w' = w := by
  have HC : Hid (Calls Try.prog 86 #[.slice a l.length c, .func (.func 81) #[] #[]] w fun r w' => ∃ x : Int, r = .returned (.int .i64 x) ∧ (decide (0 ≤ x) = l.any fun x => decide (x < 0)) ∧ w' = w) := indexBelow_impl h hl
  clear h
  generalize (l.any fun x => decide (x < 0)) = q at *
  go_enter Try.func80, Try.ntmps80
  go_wp2_with fail
  refine HC.out.mono ?_
  rintro r w1 ⟨x, rfl, hx, rfl⟩
  clear HC
  by_cases h0 : (0 : Int) ≤ x
  · have E : Hid (q = true) := by show _ = _; rw [← hx]; simpa using h0
    clear hx
    go_wp2
    go_ret
    exact ⟨by rw [E.out]; simp [h0], rfl⟩
  · have E : Hid (q = false) := by show _ = _; rw [← hx]; simpa using h0
    clear hx
    go_wp2
    go_ret
    exact ⟨by rw [E.out]; simp [h0], rfl⟩
end Go.Proofs.Ytdobohobhpailaa
namespace Go.Proofs.Ytdobohobhpailaa
open Go.RowKit
set_option linter.unusedVariables false
set_option linter.unusedSimpArgs false
theorem arrs_one5 {W : World} {o : Nat} {x y : Value} {t : TypeId} {s d : List Int} (hb : Box W o x y t) (h : ArrI W (.agg #[x, y]) s d) : ArrsI W (.slice (some ⟨o, 0, none⟩) 1 1) [s, d] := by
  obtain ⟨a, c, b, e, e', i1, i2, g1, g2⟩ := h
  obtain ⟨rfl, rfl⟩ : x = .slice a s.length c ∧ y = .slice b d.length e := by cases e'; exact ⟨rfl, rfl⟩
  refine ⟨_, 1, 1, rfl, rfl, .inr ⟨o, 0, [.slice a s.length c, .slice b d.length e], rfl, hb.lt, rfl, fun j hj => ?_⟩⟩
  match j, hj with
  | 0, _ => exact ⟨hb.c0, a, c, rfl, g1, i1⟩
  | 1, _ => exact ⟨hb.c1, b, e, rfl, g2, i2⟩
theorem arrs_two5 {W : World} {o : Nat} {x y x' y' : Value} {t : TypeId} {s d s' d' : List Int} (hb : W.heap[o]? = some (.cells #[x, y, x', y'] t (0, 0))) (h : ArrI W (.agg #[x, y]) s d) (k : ArrI W (.agg #[x', y']) s' d') : ArrsI W (.slice (some ⟨o, 0, none⟩) 2 2) [s, d, s', d'] := by
  obtain ⟨a, c, b, e, e', i1, i2, g1, g2⟩ := h
  obtain ⟨rfl, rfl⟩ : x = .slice a s.length c ∧ y = .slice b d.length e := by cases e'; exact ⟨rfl, rfl⟩
  obtain ⟨a', c', b', f', e', i3, i4, g3, g4⟩ := k
  obtain ⟨rfl, rfl⟩ : x' = .slice a' s'.length c' ∧ y' = .slice b' d'.length f' := by cases e'; exact ⟨rfl, rfl⟩
  refine ⟨_, 2, 2, rfl, rfl, .inr ⟨o, 0, [.slice a s.length c, .slice b d.length e, .slice a' s'.length c', .slice b' d'.length f'], rfl, lt_of_heapA hb, rfl, fun j hj => ?_⟩⟩
  match j, hj with
  | 0, _ => exact ⟨cell_at hb rfl, a, c, rfl, g1, i1⟩
  | 1, _ => exact ⟨cell_at hb rfl, b, e, rfl, g2, i2⟩
  | 2, _ => exact ⟨cell_at hb rfl, a', c', rfl, g3, i3⟩
  | 3, _ => exact ⟨cell_at hb rfl, b', f', rfl, g4, i4⟩
theorem four5 (w : World) (A B C D : Obj) :
    ((((w.alloc A).alloc B).alloc C).alloc D).heap[w.heap.size]? = some A ∧ ((((w.alloc A).alloc B).alloc C).alloc D).heap[w.heap.size + 1]? = some B ∧ ((((w.alloc A).alloc B).alloc C).alloc D).heap[w.heap.size + 1 + 1]? = some C ∧ ((((w.alloc A).alloc B).alloc C).alloc D).heap[w.heap.size + 1 + 1 + 1]? = some D := by
  have e1 := heap_alloc_new w A
  have e2 := heap_alloc_new (w.alloc A) B
  have e3 := heap_alloc_new ((w.alloc A).alloc B) C
  have e4 := heap_alloc_new (((w.alloc A).alloc B).alloc C) D
  simp only [World.size_alloc] at e2 e3 e4
  refine ⟨?_, ?_, ?_, e4⟩
  · rw [heap_alloc_old _ _ (by simp only [World.size_alloc]; omega), heap_alloc_old _ _ (by simp only [World.size_alloc]; omega), heap_alloc_old _ _ (by simp only [World.size_alloc]; omega)]; exact e1
  · rw [heap_alloc_old _ _ (by simp only [World.size_alloc]; omega), heap_alloc_old _ _ (by simp only [World.size_alloc]; omega)]; exact e2
  · rw [heap_alloc_old _ _ (by simp only [World.size_alloc]; omega)]; exact e3
theorem allOkV_two (s d t e : List Int) : allOkV [s, d, t, e] 2 = (arrOk s d && arrOk t e) := by simp [allOkV, List.range_succ]
theorem allOkV_one (t e : List Int) : allOkV [t, e] 1 = arrOk t e := by simp [allOkV, List.range_succ]
theorem allOk2_impl {s d t e : List Int} {W : World} {o : Nat} {x y x' y' : Value} (h : ArrI W (.agg #[x, y]) s d) (k : ArrI W (.agg #[x', y']) t e) (hs : s.length ≤ 1048576) (hd : d.length ≤ 1048576) (ht : t.length ≤ 1048576) (he : e.length ≤ 1048576) {T : TypeId} (ho : W.heap[o]? = some (.cells #[x, y, x', y'] T (0, 0))) :
    Calls Try.prog 18 #[.slice (some ⟨o, 0, none⟩) 2 2] W fun r w' => r = .returned (.bool (arrOk s d && arrOk t e)) ∧ Below W.heap.size W w' := by
  rw [← allOkV_two]
  refine allOk_impl (arrs_two5 ho h k) (by decide) (fun j => ?_)
  match j with
  | 0 => exact hs
  | 1 => exact hd
  | 2 => exact ht
  | 3 => exact he
  | j + 4 => simp
end Go.Proofs.Ytdobohobhpailaa
