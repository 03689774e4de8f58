/-
  Several texts, one behind the other: ImplRed3, ScanN, MakeQ.
-/
import Derived.Test.YtnkacfgbkfkhdaaGreatY25
import Derived.Test.YtnkacfgbkfkhdaaGreatY27
import Derived.Test.YtnkacfgbkfkhdaaGreatY24
import Derived.Test.YtnkacfgbkfkhdaaGreatY12
import Derived.Test.YtnkacfgbkfkhdaaGreatY19
import Derived.Test.YtnkacfgbkfkhdaaGreatY18
namespace Go.Proofs.YtnkacfgbkfkhdaaGreat
open Go.RowKit Go.Shelf
set_option linter.unusedVariables false
set_option linter.unusedSimpArgs false
attribute [local go_sem] Oper.semAt_some
/-- An array stays where a block that is no cells is written, or a new one laid. -/
theorem Arr.grownN {B C : Nat} {W W' : World} {v : Value} {s d : List Int} {row : Option Nat} (h : Arr B C W v s d) (hg : W.grownBy W' row) (hr : ∀ r, row = some r → ∃ o : Obj, W.heap[r]? = some o ∧ o.isCells = false) : Arr B C W' v s d := by
  obtain ⟨x, y, rfl, h1, h2, h3⟩ := h
  have key : ∀ {u m}, Piece B C W u m → ∀ g, row = some g → NotAt g u := fun hp g e => by
    obtain ⟨o, ho, hc⟩ := hr g e
    exact hp.notRow (fun cur t fr hh => by rw [hh] at ho; cases ho; cases hc)
  exact ⟨x, y, rfl, h1.grown hg (key h1), h2.grown hg (key h2), h3⟩
theorem But.grownN {q : Nat} {A W W' : World} {row : Option Nat} (h : But q A W) (hg : W.grownBy W' row) (hr : ∀ r, row = some r → A.heap.size ≤ r) : But q A W' :=
  ⟨hg.os.trans h.os, hg.tape.trans h.tape, hg.output.trans h.output, Nat.le_trans h.size hg.size, fun k hk hne => (hg.block k (by have := h.size; omega) (fun e => by have := hr k e.symm; omega)).trans (h.block k hk hne)⟩
/-- What the loop keeps: nothing has turned but the box of what was reckoned so far. -/
structure RdI (A W : World) (N0 q : Nat) (x y : Value) (t D : List Int) : Prop where
  bt : But q A W
  z : Box W q x y 26
  a : ∃ B C, Arr B C W (.agg #[x, y]) t D ∧ N0 + 3 ≤ B ∧ C ≤ W.heap.size ∧ (C ≤ q ∨ q < B)
theorem RdI.arrI {A W : World} {N0 q : Nat} {x y : Value} {t D : List Int} (h : RdI A W N0 q x y t D) : ArrI W (.agg #[x, y]) t D := by
  obtain ⟨B, C, ha, _⟩ := h.a
  exact ha.arrI
theorem RdI.grown {A W W' : World} {N0 q : Nat} {x y : Value} {t D : List Int} {row : Option Nat} (h : RdI A W N0 q x y t D) (hg : W.grownBy W' row) (hr : ∀ r, row = some r → A.heap.size ≤ r ∧ ∃ o : Obj, W.heap[r]? = some o ∧ o.isCells = false) : RdI A W' N0 q x y t D := by
  obtain ⟨B, C, ha, h1, h2, h3⟩ := h.a
  refine ⟨h.bt.grownN hg (fun r e => (hr r e).1), ?_, ⟨B, C, ha.grownN hg (fun r e => (hr r e).2), h1, Nat.le_trans h2 hg.size, h3⟩⟩
  have hz := h.z
  unfold Box at hz ⊢
  rw [hg.block q (lt_of_heapA hz) (fun e => by obtain ⟨_, o, ho, hc⟩ := hr q e.symm; rw [hz] at ho; cases ho; cases hc)]
  exact hz
theorem RdI.put {A W W' : World} {N0 q C : Nat} {x y x' y' : Value} {t D D' : List Int} (h : RdI A W N0 q x y t D) (hb : Below W.heap.size W W') (ha : Arr W.heap.size C W' (.agg #[x', y']) t D') (hC : C ≤ W'.heap.size) (hN : N0 + 3 ≤ W.heap.size) : RdI A ((W'.setCell ⟨q, 0, none⟩ x').setCell ⟨q, 1, none⟩ y') N0 q x' y' t D' := by
  have h2 := h.z.lt
  have ww : Win q (q + 1) W' ((W'.setCell ⟨q, 0, none⟩ x').setCell ⟨q, 1, none⟩ y') := (win_setCell _ _ _ _).trans (win_setCell _ _ _ _)
  have b1 : But q W W' := ⟨hb.os, hb.tape, hb.output, hb.size, fun k hk _ => hb.block k hk⟩
  refine ⟨((h.bt.trans b1).setCell 0 x').setCell 1 y', arr_stored (h.z.keep hb), ⟨W.heap.size, C, ha.win ww (.inr (by omega)), hN, by simp only [size_setCell]; exact hC, .inr h2⟩⟩
theorem keepsFrom_put {B q : Nat} {W W' : World} {x' y' : Value} (hb : Below W.heap.size W W') (hq : q < B) : KeepsFrom B W ((W'.setCell ⟨q, 0, none⟩ x').setCell ⟨q, 1, none⟩ y') := by
  refine ⟨by simp only [size_setCell]; exact hb.size, fun j o h1 h2 _ => ?_⟩
  rw [heap_setCell_other _ _ _ _ (by show j ≠ q; omega), heap_setCell_other _ _ _ _ (by show j ≠ q; omega), hb.block j (Array.getElem?_eq_some_iff.1 h2).1]
  exact h2
theorem keepsTwo_put {q q8 G : Nat} {W W' : World} {x' y' : Value} (hb : Below W.heap.size W W') (h1 : q8 ≠ q) (h2 : G ≠ q) (h3 : q8 < W.heap.size) (h4 : G < W.heap.size) : KeepsTwo q8 G W ((W'.setCell ⟨q, 0, none⟩ x').setCell ⟨q, 1, none⟩ y') := by
  constructor
  · rw [heap_setCell_other _ _ _ _ (by show q8 ≠ q; exact h1), heap_setCell_other _ _ _ _ (by show q8 ≠ q; exact h1)]
    exact hb.block _ h3
  · rw [heap_setCell_other _ _ _ _ (by show G ≠ q; exact h2), heap_setCell_other _ _ _ _ (by show G ≠ q; exact h2)]
    exact hb.block _ h4
theorem box_but {A W : World} {q p : Nat} {x y : Value} {ty : TypeId} (h : Box A p x y ty) (hb : But q A W) (hne : p ≠ q) : Box W p x y ty := by
  unfold Box at h ⊢
  rw [hb.block p (lt_of_heapA h) hne]
  exact h
/-- Behind the stores of an answer that has a code. -/
theorem red_bad {w W W' : World} {N0 : Nat} {C : Int} {B : Nat} (hN : w.heap.size = N0) (hb : Below W.heap.size W W') (hw : Below N0 w W') (h1 : Box W' (N0 + 1) (.slice none 0 0) (.slice none 0 0) 26) (h2 : W'.heap[N0 + 2]? = some (.cells #[.int .i64 0] 3 (0, 0))) (hB : N0 + 3 ≤ B) :
    KeepsFrom B W (((W'.setCell ⟨N0 + 1, 0, none⟩ (.slice none 0 0)).setCell ⟨N0 + 1, 1, none⟩ (.slice none 0 0)).setCell ⟨N0 + 1 + 1, 0, none⟩ (.int .i64 C)) ∧
    Box (((W'.setCell ⟨N0 + 1, 0, none⟩ (.slice none 0 0)).setCell ⟨N0 + 1, 1, none⟩ (.slice none 0 0)).setCell ⟨N0 + 1 + 1, 0, none⟩ (.int .i64 C)) (N0 + 1) (.slice none 0 0) (.slice none 0 0) 26 ∧
    (((W'.setCell ⟨N0 + 1, 0, none⟩ (.slice none 0 0)).setCell ⟨N0 + 1, 1, none⟩ (.slice none 0 0)).setCell ⟨N0 + 1 + 1, 0, none⟩ (.int .i64 C)).heap[N0 + 2]? = some (.cells #[.int .i64 C] 3 (0, 0)) ∧
    Below N0 w (((W'.setCell ⟨N0 + 1, 0, none⟩ (.slice none 0 0)).setCell ⟨N0 + 1, 1, none⟩ (.slice none 0 0)).setCell ⟨N0 + 1 + 1, 0, none⟩ (.int .i64 C)) := by
  refine ⟨⟨by simp only [size_setCell]; exact hb.size, fun j o' k1 k2 _ => ?_⟩, ?_, ?_, ?_⟩
  · rw [heap_setCell_other _ _ _ _ (by show j ≠ N0 + 1 + 1; omega), heap_setCell_other _ _ _ _ (by show j ≠ N0 + 1; omega), heap_setCell_other _ _ _ _ (by show j ≠ N0 + 1; omega), hb.block j (Array.getElem?_eq_some_iff.1 k2).1]
    exact k2
  · have q : Box ((W'.setCell ⟨N0 + 1, 0, none⟩ (.slice none 0 0)).setCell ⟨N0 + 1, 1, none⟩ (.slice none 0 0)) (N0 + 1) (.slice none 0 0) (.slice none 0 0) 26 := arr_stored h1
    exact q.win (win_setCell _ (N0 + 1 + 1) 0 _) (.inl (by omega))
  · have q : ((W'.setCell ⟨N0 + 1, 0, none⟩ (.slice none 0 0)).setCell ⟨N0 + 1, 1, none⟩ (.slice none 0 0)).heap[N0 + 1 + 1]? = some (.cells #[.int .i64 0] 3 (0, 0)) := by
      rw [heap_setCell_other _ _ _ _ (by show N0 + 1 + 1 ≠ N0 + 1; omega), heap_setCell_other _ _ _ _ (by show N0 + 1 + 1 ≠ N0 + 1; omega)]
      exact h2
    have q2 := heap_setCell_same _ (N0 + 1 + 1) 0 _ _ (.int .i64 C) q
    rw [show N0 + 2 = N0 + 1 + 1 from rfl, q2]
    rfl
  · exact below_setCell (below_setCell (below_setCell hw (by omega) _ _) (by omega) _ _) (by omega) _ _
/-- Behind the return: the block for the rounds' deferred calls is turned. -/
theorem red_ret {w W : World} {N0 D' : Nat} {x y z : Value} (hD : N0 + 3 ≤ D') (hK : W.heap[D']? = some (.deferred (some []))) (h1 : W.heap[N0 + 1]? = some (.cells #[x, y] 26 (0, 0))) (h2 : W.heap[N0 + 2]? = some (.cells #[z] 3 (0, 0))) (hb : Below N0 w W) :
    (W.putObj D' (.deferred none)).heap[N0 + 1]? = some (.cells #[x, y] 26 (0, 0)) ∧ (W.putObj D' (.deferred none)).cell? ⟨N0 + 1 + 1, 0, none⟩ = some z ∧ Below N0 w (W.putObj D' (.deferred none)) ∧ ∀ B C v s d, Arr B C W v s d → Arr B C (W.putObj D' (.deferred none)) v s d := by
  have hg := grownBy_putObj' W D' (.deferred none)
  refine ⟨by rw [World.putObj_heap_other (by omega)]; exact h1, cell_at (by rw [World.putObj_heap_other (by omega)]; exact h2) rfl, ?_, fun B C v s d ha => ha.grownN hg (fun r e => by cases e; exact ⟨_, hK, rfl⟩)⟩
  exact ⟨hg.os.trans hb.os, hg.tape.trans hb.tape, hg.output.trans hb.output, Nat.le_trans hb.size hg.size, fun j hj => (World.putObj_heap_other (by omega)).trans (hb.block j hj)⟩
theorem red_good {w W : World} {N0 D' : Nat} {x y : Value} {t D : List Int} {B C : Nat} (hN : w.heap.size = N0) (hw : Below N0 w W) (h1 : Box W (N0 + 1) (.slice none 0 0) (.slice none 0 0) 26) (h2 : W.heap[N0 + 2]? = some (.cells #[.int .i64 0] 3 (0, 0))) (ha : Arr B C W (.agg #[x, y]) t D) (hB : N0 + 3 ≤ B) (hD : N0 + 3 ≤ D') (hK : W.heap[D']? = some (.deferred (some []))) :
    ∃ V, V = ((W.setCell ⟨N0 + 1, 0, none⟩ x).setCell ⟨N0 + 1, 1, none⟩ y).setCell ⟨N0 + 1 + 1, 0, none⟩ (.int .i64 0) ∧ V.heap[D']? = some (.deferred (some [])) ∧ V.heap[N0 + 1]? = some (.cells #[x, y] 26 (0, 0)) ∧ V.heap[N0 + 2]? = some (.cells #[.int .i64 0] 3 (0, 0)) ∧ Below N0 w V ∧ Arr B C V (.agg #[x, y]) t D ∧ V.heap.size = W.heap.size := by
  refine ⟨_, rfl, ?_, ?_, ?_, ?_, ?_, ?_⟩
  · rw [heap_setCell_other _ _ _ _ (by show D' ≠ N0 + 1 + 1; omega), heap_setCell_other _ _ _ _ (by show D' ≠ N0 + 1; omega), heap_setCell_other _ _ _ _ (by show D' ≠ N0 + 1; omega)]
    exact hK
  · have q : Box ((W.setCell ⟨N0 + 1, 0, none⟩ x).setCell ⟨N0 + 1, 1, none⟩ y) (N0 + 1) x y 26 := arr_stored h1
    exact q.win (win_setCell _ (N0 + 1 + 1) 0 _) (.inl (by omega))
  · have q : ((W.setCell ⟨N0 + 1, 0, none⟩ x).setCell ⟨N0 + 1, 1, none⟩ y).heap[N0 + 1 + 1]? = some (.cells #[.int .i64 0] 3 (0, 0)) := by
      rw [heap_setCell_other _ _ _ _ (by show N0 + 1 + 1 ≠ N0 + 1; omega), heap_setCell_other _ _ _ _ (by show N0 + 1 + 1 ≠ N0 + 1; omega)]
      exact h2
    have q2 := heap_setCell_same _ (N0 + 1 + 1) 0 _ _ (.int .i64 0) q
    rw [show N0 + 2 = N0 + 1 + 1 from rfl, q2]
    rfl
  · exact below_setCell (below_setCell (below_setCell hw (by omega) _ _) (by omega) _ _) (by omega) _ _
  · exact ((ha.setCell (by omega) _ _).setCell (by omega) _ _).setCell (by omega) _ _
  · simp only [size_setCell]
theorem slice_uptoA (W : World) (g n c m : Nat) (h : m ≤ c) : (Instr.slice 48 (.slice (some ⟨g, 0, none⟩) n c) none (some (.int .i64 (m : Int))) none).run Tryz.prog W = .ok (.slice (some ⟨g, 0, none⟩) m c) W := by
  have hs : (sizeOf 26).run Tryz.prog W = .ok 2 W := by kernel_rfl
  have he : Tryz.prog.elem 48 = 26 := by kernel_rfl
  rw [run_slice_h (P := Tryz.prog) (w := W) 48 (some ⟨g, 0, none⟩) n c (by rw [he]; exact Tryz.underlying48) .i64 (m : Int) (by omega) (by omega), he, hs]
  simp [Result.andThen, sliced, Addr.add]
theorem ListAt.cell {W0 wr : World} {g c k j : Nat} {xs : List Value} {F : List (List Int)} (h : ListAt W0 wr (.slice (some ⟨g, 0, none⟩) k c) k xs F) (hj : j < 2 * k) : wr.cell? ⟨g, 0 + j, none⟩ = some (xs.getD j undef) := by
  rcases h.own.2 with ⟨e, h0⟩ | ⟨g', cap, cur, e, hB, hg, hle, hmax, hsz, htk⟩
  · cases e
  · cases e
    have hx := h.own.1
    refine cell_at (fr := (0, 0)) hg ?_
    rw [Nat.zero_add]
    have e : (cur.toList.take (k * 2))[j]? = xs[j]? := by rw [htk]
    rw [List.getElem?_take_of_lt (by omega)] at e
    rw [← Array.getElem?_toList, e]
    have : j < xs.length := by omega
    simp [this]
theorem ListAt.form {W0 wr : World} {v : Value} {k : Nat} {xs : List Value} {F : List (List Int)} (h : ListAt W0 wr v k xs F) (hk : 0 < k) : ∃ g c, v = .slice (some ⟨g, 0, none⟩) k c ∧ W0.heap.size ≤ g ∧ g < wr.heap.size ∧ k ≤ c := by
  rcases h.own.2 with ⟨e, h0⟩ | ⟨g', cap, cur, e, hB, hg, hle, hmax, hsz, htk⟩
  · omega
  · exact ⟨g', cap, e, hB, lt_of_heapA hg, hle⟩
theorem results_arr_int {fn : Func} {p q : Tmp} (h : fn.results = #[.cell p 26, .cell q 3]) (tmps : Array Value) (w : World) (g k : Nat) (x y z : Value) (hp : tmps.getD p undef = .pointer (some ⟨g, 0, none⟩)) (hq : tmps.getD q undef = .pointer (some ⟨k, 0, none⟩))
    (hg : w.heap[g]? = some (.cells #[x, y] 26 (0, 0))) (hk : w.cell? ⟨k, 0, none⟩ = some z) : (results fn tmps).run Tryz.prog w = .ok (.tuple #[.agg #[x, y], z]) w := by
  have e : (asAddr (.pointer (some ⟨g, 0, none⟩))).run Tryz.prog w = .ok ⟨g, 0, none⟩ w := by simp [asAddr]
  have e' : (asAddr (.pointer (some ⟨k, 0, none⟩))).run Tryz.prog w = .ok ⟨k, 0, none⟩ w := by simp [asAddr]
  have l := arr_loaded hg
  have l' : (loadVar 3 ⟨k, 0, none⟩).run Tryz.prog w = .ok z w := by simp [loadVar, go_sem, hk]
  have hp' : tmps[p]?.getD undef = .pointer (some ⟨g, 0, none⟩) := by simpa using hp
  have hq' : tmps[q]?.getD undef = .pointer (some ⟨k, 0, none⟩) := by simpa using hq
  simp [results, h, hp', hq', e, e', l, l', Sem.run_bind, Result.andThen]
theorem blocks4r (w : World) (A B C D : Obj) :
    ((((w.alloc A).alloc B).alloc C).alloc D).heap[w.heap.size + 1]? = some B ∧ ((((w.alloc A).alloc B).alloc C).alloc D).heap[w.heap.size + 2]? = some C ∧ ((((w.alloc A).alloc B).alloc C).alloc D).heap[w.heap.size + 3]? = some D := by
  have s1 : (w.alloc A).heap.size = w.heap.size + 1 := by simp
  have s2 : ((w.alloc A).alloc B).heap.size = w.heap.size + 2 := by simp
  have s3 : (((w.alloc A).alloc B).alloc C).heap.size = w.heap.size + 3 := by simp
  refine ⟨?_, ?_, ?_⟩
  · have := ((bAlloc (bAlloc (Below.refl _ ((w.alloc A).alloc B)) C) D).block (w.alloc A).heap.size (by omega)).trans (heap_alloc_new (w.alloc A) B)
    rw [s1] at this; exact this
  · have := ((bAlloc (Below.refl _ (((w.alloc A).alloc B).alloc C)) D).block ((w.alloc A).alloc B).heap.size (by omega)).trans (heap_alloc_new ((w.alloc A).alloc B) C)
    rw [s2] at this; exact this
  · have := heap_alloc_new (((w.alloc A).alloc B).alloc C) D
    rw [s3] at this; exact this
def slA : Value → Option Addr
  | .slice a _ _ => a
  | _ => none
def slC : Value → Nat
  | .slice _ _ c => c
  | _ => 0
theorem sl_ints {w : World} {v : Value} {l : List Int} (h : IntsI w v l) : v = .slice (slA v) l.length (slC v) := by
  obtain ⟨a, c, rfl, _, _⟩ := h
  rfl
/-- The arrays of such a list, one by one. -/
theorem ListAt.each {W0 wr : World} {g c k : Nat} {xs : List Value} {t : List Int} {R : List (List Int)} (h : ListAt W0 wr (.slice (some ⟨g, 0, none⟩) k c) k xs (flatR t R)) (hR : R.length = k) {rg : Nat → List Int} (hrg : ∀ j, rg j = R.getD j []) : ∃ (xa ya : Nat → Option Addr) (xc yc : Nat → Nat), ∀ j, j < k →
    wr.cell? ⟨g, j * 2, none⟩ = some (.slice (xa j) t.length (xc j)) ∧ wr.cell? ⟨g, j * 2 + 1, none⟩ = some (.slice (ya j) (rg j).length (yc j)) ∧ ArrI W0 (.agg #[.slice (xa j) t.length (xc j), .slice (ya j) (rg j).length (yc j)]) t (rg j) := by
  refine ⟨fun j => slA (xs.getD (2 * j) undef), fun j => slA (xs.getD (2 * j + 1) undef), fun j => slC (xs.getD (2 * j) undef), fun j => slC (xs.getD (2 * j + 1) undef), ?_⟩
  intro j hj
  have c0 := h.cell (j := 2 * j) (by omega)
  have c1 := h.cell (j := 2 * j + 1) (by omega)
  have i0 := h.ints (2 * j) (by omega)
  have i1 := h.ints (2 * j + 1) (by omega)
  obtain ⟨f0, f1⟩ := flatR_at t R (i := j) (by omega)
  rw [f0] at i0
  rw [f1, ← hrg] at i1
  have s0 := sl_ints i0
  have s1 := sl_ints i1
  rw [Nat.zero_add] at c0
  rw [Nat.zero_add] at c1
  have e : j * 2 = 2 * j := Nat.mul_comm j 2
  refine ⟨by rw [e, c0]; exact congrArg _ s0, by rw [e, c1]; exact congrArg _ s1, ?_⟩
  simp only []
  rw [← s0, ← s1]
  obtain ⟨a, c, e, g1, h1⟩ := i0
  obtain ⟨b, f, e', g2, h2⟩ := i1
  rw [e, e']
  exact ⟨a, c, b, f, rfl, h1, h2, g1, g2⟩
set_option maxRecDepth 100000 in
set_option maxHeartbeats 8000000 in
/-- reducing's closure, of an array of one row at least. -/
theorem reduce1_impl {g : Int} {n0 : Int} {t d : List Int} {w : World} {v : Value} {o : Nat} (h : ArrI w v (n0 :: t) d) (ho : arrOk (n0 :: t) d = true) (hp : 0 < n0) (hg : w.cell? ⟨o, 0, none⟩ = some (.int .i64 g)) (hol : o < w.heap.size) :
    Calls Tryz.prog 68 #[v, .pointer (some ⟨o, 0, none⟩)] w fun r w' => ∃ v', r = .returned (.tuple #[v', .int .i64 (redL g t (rowsD (n0 :: t) d)).1]) ∧ Arr w.heap.size w'.heap.size w' v' (if (redL g t (rowsD (n0 :: t) d)).1 = 0 then t else []) (redL g t (rowsD (n0 :: t) d)).2 ∧ Below w.heap.size w w' := by
  have H : Hid (ArrI w v (n0 :: t) d) := h
  obtain ⟨a, c, b, f, rfl, _, _, _, _⟩ := h
  have HO : Hid (arrOk (n0 :: t) d = true) := ho
  have HRK : Hid (∀ i, i < (rowsD (n0 :: t) d).length → arrOk t ((rowsD (n0 :: t) d).getD i []) = true) := rowsD_ok ho (by simp)
  have hh := head_bd ho
  simp only [List.getD_cons_zero] at hh
  obtain ⟨M, hM⟩ : ∃ M : Nat, rowsN (n0 :: t) = M + 1 := ⟨n0.toNat - 1, by simp [rowsN]; omega⟩
  have hM3 : M ≤ 299 := by have : rowsN (n0 :: t) = n0.toNat := by simp [rowsN]
                           omega
  have HRL : Hid ((rowsD (n0 :: t) d).length = M + 1) := by show _ = _; rw [rowsD_len, hM]
  have HCO : Hid (∀ W q, Below w.heap.size w W → Box W q (.slice a (t.length + 1) c) (.slice b d.length f) 26 → Calls Tryz.prog 55 #[.func (.func 76) #[] #[.pointer (some ⟨q, 0, none⟩)]] W fun e w' => ∃ v xs, e = .returned v ∧ ListAt W w' v (M + 1) xs (flatR t (rowsD (n0 :: t) d))) := fun W q hb hB => by
    have q := collect_rows (H.out.keep hb) ho hB
    rw [hM] at q
    exact q
  generalize rowsD (n0 :: t) d = R at *
  obtain ⟨rg, hrg⟩ : ∃ rg : Nat → List Int, ∀ j, rg j = R.getD j [] := ⟨_, fun _ => rfl⟩
  have HRG : Hid (∀ j, rg j = R.getD j []) := hrg
  have HTL : Hid (t.length ≤ 1048576) := by
    have := (sizeV_ok (arrOk_shape (HRK.out 0 (by have := HRL.out; omega)))).1
    show _ ≤ _; omega
  have hRD : ∀ i, i < M + 1 → (rg i).length ≤ 300 := fun i hi => by rw [hrg]; exact arrOk_len (HRK.out i (by have := HRL.out; omega))
  obtain ⟨QC, hQC⟩ : ∃ QC, QC = (redL g t R).1 := ⟨_, rfl⟩
  obtain ⟨QS, hQS⟩ : ∃ QS, QS = (if (redL g t R).1 = 0 then t else []) := ⟨_, rfl⟩
  obtain ⟨QD, hQD⟩ : ∃ QD, QD = (redL g t R).2 := ⟨_, rfl⟩
  rw [← hQS, ← hQC, ← hQD]
  have EG : Hid (∀ d, redL g t R = (0, d) → QC = 0 ∧ QS = t ∧ QD = d) := fun d e => by rw [hQC, hQS, hQD, e]; exact ⟨rfl, if_pos rfl, rfl⟩
  have EB : Hid (∀ c, c ≠ 0 → redL g t R = (c, []) → QC = c ∧ QS = [] ∧ QD = []) := fun c hc e => by rw [hQC, hQS, hQD, e]; exact ⟨rfl, if_neg hc, rfl⟩
  have hne : ((M : Int) + 1 == 0) = false := by simp; omega
  clear hQC hQS hQD ho hh hM hp hrg
  refine (callsIn_wide (n := 8)).1 ?_
  refine callsIn_of_wp_marks Tryz.func68 rfl trivial ?_ rfl
  simp only [Tryz.ntmps68, List.size_toArray, List.length_cons, List.length_nil, Nat.reduceAdd, Nat.reduceSub, Array.replicate_succ, Array.replicate_zero, List.push_toArray, List.append_toArray, List.nil_append, List.cons_append]
  gi_wp2_with fail
  refine ⟨trivial, (cutRows_in _ _ _ _ rfl rfl).mono ?_⟩
  rintro rr w2 ⟨rfl, hw⟩
  have hsz2 : w2.heap.size = w.heap.size + 4 := by rw [hw]; simp
  have BK : Hid (w2.heap[w.heap.size + 1]? = some (.cells #[.slice none 0 0, .slice none 0 0] 26 (0, 0)) ∧ w2.heap[w.heap.size + 2]? = some (.cells #[.int .i64 0] 3 (0, 0)) ∧ w2.heap[w.heap.size + 3]? = some (.cells #[.slice a (t.length + 1) c, .slice b d.length f] 26 (0, 0))) := by rw [hw]; exact blocks4r w _ _ _ _
  have B2 : Hid (Below w.heap.size w w2) := by rw [hw]; exact bAlloc (bAlloc (bAlloc (bAlloc (Below.refl _ _) _) _) _) _
  clear hw
  gi_wp2_with fail
  refine ⟨trivial, (callsIn_wide.2 (HCO.out w2 (w.heap.size + 3) B2.out BK.out.2.2)).mono ?_⟩
  rintro rr w3 ⟨v3, xs, rfl, hL⟩
  obtain ⟨G, cc, rfl, hG1, hG2, hcc⟩ := hL.form (by omega)
  obtain ⟨xa, ya, xc, yc, HX⟩ := hL.each HRL.out HRG.out
  have HXX : Hid (∀ j, j < M + 1 → w3.cell? ⟨G, j * 2, none⟩ = some (.slice (xa j) t.length (xc j)) ∧ w3.cell? ⟨G, j * 2 + 1, none⟩ = some (.slice (ya j) (rg j).length (yc j)) ∧ ArrI w2 (.agg #[.slice (xa j) t.length (xc j), .slice (ya j) (rg j).length (yc j)]) t (rg j)) := HX
  have B3 : Hid (Below w2.heap.size w2 w3) := hL.below
  obtain ⟨m0, m1, mA⟩ := HX M (by omega)
  have HMA : Hid (ArrI w3 _ t (rg M)) := mA.keep hL.below
  have hsl := fun W => slice_uptoA W G (M + 1) cc M (by omega)
  have hS3 : Hid (w2.heap.size ≤ w3.heap.size) := hL.below.size
  have hml := hRD M (by omega)
  clear hL mA HX HCO
  gi_wp2_with fail
  refine ⟨trivial, (callsIn_wide.2 (copyOf_impl HMA.out HTL.out (by omega))).mono ?_⟩
  rintro rr w4 ⟨v4, rfl, ha4, hb4⟩
  obtain ⟨x4, xc4, y4, yc4, rfl, _, _, _, _⟩ := ha4.arrI
  have A4 : Hid (Arr w3.heap.size w4.heap.size w4 (.agg #[.slice x4 t.length xc4, .slice y4 (rg M).length yc4]) t (rg M)) := ha4
  have B4 : Hid (Below w3.heap.size w3 w4) := hb4
  clear ha4 hb4
  gi_wp2_with fail
  refine ⟨trivial, (backwardA_in _ _ _ rfl).mono ?_⟩
  rintro rr w6 ⟨rfl, hw⟩
  have hsz6 : w6.heap.size = w4.heap.size + 2 := by rw [hw]; simp
  have B46 : Hid (Below w4.heap.size w4 w6) := by rw [hw]; exact bAlloc (bAlloc (Below.refl _ _) _) _
  have Z6 : Hid (Box w6 w4.heap.size (.slice x4 t.length xc4) (.slice y4 (rg M).length yc4) 26) := by rw [hw]; exact (box_new w4 _ _ _).keep (bAlloc (Below.refl _ _) _)
  have Q6 : Hid (w6.cell? ⟨w4.heap.size + 1, 0, none⟩ = some (.slice (some ⟨G, 0, none⟩) M cc)) := by
    have q := heap_alloc_new (w4.alloc (.cells #[.slice x4 t.length xc4, .slice y4 (rg M).length yc4] 26)) (.cells #[.slice (some ⟨G, 0, none⟩) M cc] 48)
    rw [World.size_alloc] at q
    rw [hw]
    exact cell_at q rfl
  have s34 := B4.out.size
  have s23 := hS3.out
  have BW6 : Hid (Below w2.heap.size w2 w6) := bTrans B3.out (bTrans B4.out B46.out)
  have RD6 : Hid (RdI w6 w6 w.heap.size w4.heap.size (.slice x4 t.length xc4) (.slice y4 (rg M).length yc4) t (rg M)) :=
    ⟨But.refl _ _, Z6.out, ⟨w3.heap.size, w4.heap.size, A4.out.keep B46.out, by omega, by omega, .inl (Nat.le_refl _)⟩⟩
  have hG6 : G < w6.heap.size := by omega
  have h06 : ∀ j, j < M → w6.cell? ⟨G, 0 + j * 2, none⟩ = some (.slice (xa j) t.length (xc j)) ∧ w6.cell? ⟨G, 0 + j * 2 + 1, none⟩ = some (.slice (ya j) (rg j).length (yc j)) := fun j hj => by
    obtain ⟨q0, q1, _⟩ := HXX.out j (by omega)
    rw [Nat.zero_add]
    exact ⟨((bTrans B4.out B46.out).cell (p := ⟨G, j * 2, none⟩) hG2).trans q0, ((bTrans B4.out B46.out).cell (p := ⟨G, j * 2 + 1, none⟩) hG2).trans q1⟩
  have R36 : Hid (Box w6 (w.heap.size + 1) (.slice none 0 0) (.slice none 0 0) 26) := Box.keep (w := w2) BK.out.1 BW6.out
  have R46 : Hid (w6.heap[w.heap.size + 2]? = some (.cells #[.int .i64 0] 3 (0, 0))) := (BW6.out.block _ (by omega)).trans BK.out.2.1
  have G6 : Hid (w6.cell? ⟨o, 0, none⟩ = some (.int .i64 g)) := ((bTrans B2.out BW6.out).cell (p := ⟨o, 0, none⟩) hol).trans hg
  clear hw m0 m1 hsl hml
  gi_wp2_with fail
  refine wpIn_rangeFunc_ownH rfl (by decide) (gf := 100) (lb := #[.pointer (some ⟨w4.heap.size + 1, 0, none⟩)]) rfl trivial (enters_of Tryz.func100 (by kernel_rfl) rfl)
    (backA_stops 7 (w4.heap.size + 1) G 0 cc M (some ⟨G, 0, none⟩) xa ya (fun _ => t.length) xc (fun j => (rg j).length) yc (by decide) (by omega) (fun _ => rfl) w6 (by omega) hG6 Q6.out h06) keepsTwo_t (keepsTwo_b (by omega) hG6) (Below.refl _ _) (fun _ => rfl)
    (fun pre W => ∃ xa ya xc yc D, accR g t R M pre = (0, D) ∧ RdI w6 W w.heap.size w4.heap.size (.slice xa t.length xc) (.slice ya D.length yc) t D)
    (fun c pre W => c = Code.ret ∧ ∃ C, C ≠ 0 ∧ (accR g t R M pre).1 = C ∧ Box W (w.heap.size + 1) (.slice none 0 0) (.slice none 0 0) 26 ∧ W.heap[w.heap.size + 2]? = some (.cells #[.int .i64 C] 3 (0, 0)) ∧ Below w.heap.size w W)
    ?hI ?hIx
    ⟨_, _, _, _, _, by rw [accR_nil, ← HRG.out], RD6.out⟩
    (fun x a' W => ∃ Bx, w6.heap.size ≤ Bx ∧ Box W Bx (.slice (xa (M - 1 - x.1)) t.length (xc (M - 1 - x.1))) (.slice (ya (M - 1 - x.1)) (rg (M - 1 - x.1)).length (yc (M - 1 - x.1))) 26 ∧ a' = { tmps := #[.agg #[.slice a (t.length + 1) c, .slice b d.length f], .pointer (some ⟨o, 0, none⟩), .pointer (some ⟨w.heap.size, 0, none⟩), .pointer (some ⟨w.heap.size + 1, 0, none⟩), .pointer (some ⟨w.heap.size + 1 + 1, 0, none⟩), .slice (some ⟨G, 0, none⟩) (M + 1) cc, .int .i64 (M : Int), .pointer (some ⟨w4.heap.size, 0, none⟩), undef, .pointer (some ⟨Bx, 0, none⟩), undef, undef, .agg #[.slice a (t.length + 1) c, .slice b d.length f], .func (.func 76) #[] #[.pointer (some ⟨w.heap.size + 1 + 1 + 1, 0, none⟩)], .slice (some ⟨G, 0, none⟩) (M + 1) cc, .slice (some ⟨G, 0, none⟩) (M + 1) cc, .int .i64 ((M : Int) + 1), .bool false, undef, undef, undef, undef, undef, undef, undef, .slice (some ⟨G, 0, none⟩) (M + 1) cc, .int .i64 ((M : Int) + 1), .int .i64 (M : Int), .slice (some ⟨G, 0, none⟩) (M + 1) cc, .int .i64 (M : Int), .pointer (some ⟨G, M * 2, none⟩), .agg #[.slice (xa M) t.length (xc M), .slice (ya M) (rg M).length (yc M)], .agg #[.slice x4 t.length xc4, .slice y4 (rg M).length yc4], .slice (some ⟨G, 0, none⟩) (M + 1) cc, .int .i64 (M : Int), .slice (some ⟨G, 0, none⟩) M cc, .func (.func 100) #[] #[.pointer (some ⟨w4.heap.size + 1, 0, none⟩)], .int .i64 ((M - 1 - x.1 : Nat) : Int), .agg #[.slice (xa (M - 1 - x.1)) t.length (xc (M - 1 - x.1)), .slice (ya (M - 1 - x.1)) (rg (M - 1 - x.1)).length (yc (M - 1 - x.1))], undef, undef, undef, undef, undef, undef, undef, undef, undef, undef, undef, undef, undef], defers := [] })
    ?hAx ?assign ?body ?done ?stop
  case hI =>
    rintro pre X Y row ⟨xa5, ya5, xc5, yc5, D, hD, hst⟩ hgr hrow
    exact ⟨_, _, _, _, D, hD, hst.grown hgr (fun r e => hrow r e)⟩
  case hIx =>
    rintro c' pre X Y row ⟨hc', C, h1, h2, h3, h4, h5⟩ hgr hrow
    have hne : ∀ j, j < w6.heap.size → some j ≠ row := fun j hj e => by have := (hrow j e.symm).1; omega
    refine ⟨hc', C, h1, h2, ?_, ?_, ?_⟩
    · unfold Box at h3 ⊢
      rw [hgr.block _ (lt_of_heapA h3) (hne _ (by omega))]
      exact h3
    · rw [hgr.block _ (lt_of_heapA h4) (hne _ (by omega))]
      exact h4
    · exact ⟨hgr.os.trans h5.os, hgr.tape.trans h5.tape, hgr.output.trans h5.output, Nat.le_trans h5.size hgr.size, fun j hj => (hgr.block j (by have := h5.size; omega) (hne _ (by omega))).trans (h5.block j hj)⟩
  case hAx =>
    rintro x a' _ X Y row ⟨Bx, h1, h2, h3⟩ hgr hr'
    refine ⟨Bx, h1, ?_, h3⟩
    unfold Box at h2 ⊢
    rw [hgr.block Bx (lt_of_heapA h2) (fun e' => ?_)]
    · exact h2
    · obtain ⟨_, o, ho, hcc⟩ := hr' Bx e'.symm; rw [h2] at ho; cases ho; cases hcc
  case assign =>
    rintro l pre x W K ⟨xa5, ya5, xc5, yc5, D, hD, hst⟩ hK
    have hsW := hst.bt.size
    gi_wp2
    refine hK _ _ ((KeepsOthers.alloc _ _).from _) ⟨Below.heap_alloc _ _ _ (by omega), Below.heap_alloc _ _ _ (by omega)⟩ ⟨_, _, _, _, D, hD, hst.grown (World.grownBy_alloc W _ none) (fun r e => by cases e)⟩ ⟨W.heap.size, hsW, box_new W _ _ _, rfl⟩
  case body =>
    rintro l pre x a' W hl _ ⟨xa5, ya5, xc5, yc5, D, hD, hst⟩ ⟨Bx, hBx, hX, rfl⟩ hlt
    have HD : Hid (accR g t R M pre = (0, D)) := hD
    have HST : Hid (RdI w6 W w.heap.size w4.heap.size (.slice xa5 t.length xc5) (.slice ya5 D.length yc5) t D) := hst
    have hi : M - 1 - x.1 < M + 1 := by omega
    obtain ⟨_, _, hAi⟩ := HXX.out (M - 1 - x.1) hi
    have BWW : Hid (Below w2.heap.size w2 W) := BW6.out.trans (hst.bt.below (by omega) (by omega))
    have HAI : Hid (ArrI W (.agg #[.slice (xa (M - 1 - x.1)) t.length (xc (M - 1 - x.1)), .slice (ya (M - 1 - x.1)) (rg (M - 1 - x.1)).length (yc (M - 1 - x.1))]) t (rg (M - 1 - x.1))) := hAi.keep BWW.out
    have HRI : Hid ((rg (M - 1 - x.1)).length ≤ 1048576) := by have := hRD _ hi; show _ ≤ _; omega
    have HDL : Hid (D.length ≤ 1048576) := by
      have q := accR_len (g := g) (t := t) (R := R) (m := M) (by rw [← HRG.out]; exact hRD M (by omega)) pre
      rw [hD] at q
      show _ ≤ _
      simp only [] at q
      omega
    have HSN : Hid (accR g t R M (pre ++ [x]) = (eachTwoC g t (rg (M - 1 - x.1)) t D, eachTwoD g t (rg (M - 1 - x.1)) t D)) := by show _ = _; rw [HRG.out]; exact accR_snoc x hD
    have HE : Hid (Calls Tryz.prog 9 #[.int .i64 g, .agg #[.slice (xa (M - 1 - x.1)) t.length (xc (M - 1 - x.1)), .slice (ya (M - 1 - x.1)) (rg (M - 1 - x.1)).length (yc (M - 1 - x.1))], .agg #[.slice xa5 t.length xc5, .slice ya5 D.length yc5]] W fun r w' => ∃ v', r = .returned (.tuple #[v', .int .i64 (eachTwoC g t (rg (M - 1 - x.1)) t D)]) ∧ Arr W.heap.size w'.heap.size w' v' (eachTwoS g t (rg (M - 1 - x.1)) t D) (eachTwoD g t (rg (M - 1 - x.1)) t D) ∧ Below W.heap.size W w') := eachTwo_impl HAI.out hst.arrI HTL.out HRI.out HTL.out HDL.out
    have HSH : Hid (eachTwoC g t (rg (M - 1 - x.1)) t D = 0 → eachTwoS g t (rg (M - 1 - x.1)) t D = t) := row_shape
    obtain ⟨C, hC⟩ : ∃ C, C = eachTwoC g t (rg (M - 1 - x.1)) t D := ⟨_, rfl⟩
    obtain ⟨S', hS'⟩ : ∃ S', S' = eachTwoS g t (rg (M - 1 - x.1)) t D := ⟨_, rfl⟩
    obtain ⟨D', hD'⟩ : ∃ D', D' = eachTwoD g t (rg (M - 1 - x.1)) t D := ⟨_, rfl⟩
    rw [← hC, ← hS', ← hD'] at HE
    rw [← hC, ← hS'] at HSH
    rw [← hC, ← hD'] at HSN
    have s6 := hst.bt.size
    have x0 := hX.c0
    have x1 := hX.c1
    have z0 := hst.z.c0
    have z1 := hst.z.c1
    have g0 : W.cell? ⟨o, 0, none⟩ = some (.int .i64 g) := (hst.bt.cell (p := ⟨o, 0, none⟩) (by show o < w6.heap.size; omega) (by show o ≠ w4.heap.size; omega)).trans G6.out
    clear hC hS' hD' hD hAi hst
    gi_wp2_with fail
    refine ⟨trivial, (CallsIn.inRound l (callsIn_wide.2 HE.out)).mono ?_⟩
    rintro rr w7 ⟨v7, rfl, ha7, hb7⟩
    obtain ⟨x7, xc7, y7, yc7, rfl, _, _, _, _⟩ := ha7.arrI
    have A7 : Hid (Arr W.heap.size w7.heap.size w7 (.agg #[.slice x7 S'.length xc7, .slice y7 D'.length yc7]) S' D') := ha7
    have B7 : Hid (Below W.heap.size W w7) := hb7
    have s7 := hb7.size
    clear ha7 hb7 x0 x1 z0 z1 g0
    by_cases hc : C = 0
    · obtain rfl : S' = t := HSH.out hc
      have hcb : (C != 0) = false := by simpa using hc
      have BO : Hid (∀ O, Below W.heap.size W (w7.alloc O)) := fun O => bAlloc B7.out O
      have n0 : ∀ O : Obj, (w7.alloc O).cell? ⟨w4.heap.size, 0, none⟩ = some (.slice xa5 S'.length xc5) := fun O => (HST.out.z.keep (BO.out O)).c0
      have n1 : ∀ O : Obj, (w7.alloc O).cell? ⟨w4.heap.size, 1, none⟩ = some (.slice ya5 D.length yc5) := fun O => (HST.out.z.keep (BO.out O)).c1
      have f0 : ∀ O : Obj, (w7.alloc O).frozen? ⟨w4.heap.size, 0, none⟩ = false := fun O => free_at (HST.out.z.keep (BO.out O)) 0
      have f1 : ∀ O : Obj, (w7.alloc O).frozen? ⟨w4.heap.size, 1, none⟩ = false := fun O => free_at (HST.out.z.keep (BO.out O)) 1
      have HAC : Hid (accR g S' R M (pre ++ [x]) = (0, D')) := by show _ = _; rw [HSN.out, hc]
      clear hc
      gi_wp2
      refine ⟨keepsFrom_put (BO.out _) (by omega), keepsTwo_put (BO.out _) (by omega) (by omega) (by omega) (by omega), _, _, _, _, D', HAC.out, HST.out.put (C := w7.heap.size) (BO.out _) (A7.out.keep (bAlloc (Below.refl _ _) _)) (by simp) (by omega)⟩
    · have hcb : (C != 0) = true := by simpa using hc
      have BO : Hid (∀ O, Below W.heap.size W (w7.alloc O)) := fun O => bAlloc B7.out O
      have RX : Hid (∀ O, Box (w7.alloc O) (w.heap.size + 1) (.slice none 0 0) (.slice none 0 0) 26) := fun O => (box_but R36.out HST.out.bt (by omega)).keep (BO.out O)
      have RY : Hid (∀ O, (w7.alloc O).heap[w.heap.size + 2]? = some (.cells #[.int .i64 0] 3 (0, 0))) := fun O => ((BO.out O).block _ (by omega)).trans ((HST.out.bt.block _ (by omega) (by omega)).trans R46.out)
      have n0 : ∀ O : Obj, (w7.alloc O).cell? ⟨w.heap.size + 1, 0, none⟩ = some (.slice none 0 0) := fun O => (RX.out O).c0
      have n1 : ∀ O : Obj, (w7.alloc O).cell? ⟨w.heap.size + 1, 1, none⟩ = some (.slice none 0 0) := fun O => (RX.out O).c1
      have f0 : ∀ O : Obj, (w7.alloc O).frozen? ⟨w.heap.size + 1, 0, none⟩ = false := fun O => free_at (RX.out O) 0
      have f1 : ∀ O : Obj, (w7.alloc O).frozen? ⟨w.heap.size + 1, 1, none⟩ = false := fun O => free_at (RX.out O) 1
      have n2 : ∀ O : Obj, (w7.alloc O).cell? ⟨w.heap.size + 1 + 1, 0, none⟩ = some (.int .i64 0) := fun O => cell_at (RY.out O) rfl
      have f2 : ∀ O : Obj, (w7.alloc O).frozen? ⟨w.heap.size + 1 + 1, 0, none⟩ = false := fun O => free_at (RY.out O) 0
      have HCN : Hid (C ≠ 0) := hc
      clear hc
      have HWW : Hid (Below w.heap.size w W) := (bTrans B2.out BW6.out).trans (HST.out.bt.below (by omega) (by omega))
      gi_wp2
      obtain ⟨k1, k2, k3, k4⟩ := red_bad (C := C) (B := w6.heap.size) rfl (BO.out _) (bTrans HWW.out (BO.out _)) (RX.out _) (RY.out _) (by omega)
      exact ⟨k1, rfl, C, HCN.out, by rw [HSN.out], k2, k3, k4⟩
  case done =>
    rintro D' zs W hD' rfl ⟨xa5, ya5, xc5, yc5, D, hD, hst⟩ hK
    have HST : Hid (RdI w6 W w.heap.size w4.heap.size (.slice xa5 t.length xc5) (.slice ya5 D.length yc5) t D) := hst
    have hR : redL g t R = (0, D) := by
      have q := accR_to (g := g) (t := t) HRL.out M (Nat.le_refl _)
      rw [List.take_of_length_le (by simp), Nat.sub_self, List.drop_zero, hD] at q
      exact q.symm
    obtain ⟨rfl, rfl, rfl⟩ := EG.out _ hR
    have s6 := hst.bt.size
    have RX : Hid (Box W (w.heap.size + 1) (.slice none 0 0) (.slice none 0 0) 26) := box_but R36.out hst.bt (by omega)
    have RY : Hid (W.heap[w.heap.size + 2]? = some (.cells #[.int .i64 0] 3 (0, 0))) := (hst.bt.block _ (by omega) (by omega)).trans R46.out
    have z0 := hst.z.c0
    have z1 := hst.z.c1
    have n0 := RX.out.c0
    have n1 := RX.out.c1
    have f0 : W.frozen? ⟨w.heap.size + 1, 0, none⟩ = false := free_at RX.out 0
    have f1 : W.frozen? ⟨w.heap.size + 1, 1, none⟩ = false := free_at RX.out 1
    have n2 : W.cell? ⟨w.heap.size + 1 + 1, 0, none⟩ = some (.int .i64 0) := cell_at RY.out rfl
    have f2 : W.frozen? ⟨w.heap.size + 1 + 1, 0, none⟩ = false := free_at RY.out 0
    have HWW : Hid (Below w.heap.size w W) := (bTrans B2.out BW6.out).trans (hst.bt.below (by omega) (by omega))
    clear hD hst
    gi_wp2
    obtain ⟨B, C, ha, hB, hC, _⟩ := HST.out.a
    obtain ⟨V, hV, k1, k2, k3, k4, k5, k6⟩ := red_good (D' := D') rfl HWW.out RX.out RY.out ha hB (by omega) hK
    rw [← hV]
    obtain ⟨m1, m2, m3, m4⟩ := red_ret (w := w) (N0 := w.heap.size) (D' := D') (by omega) k1 k2 k3 k4
    refine ⟨by simp, .inl ⟨_, _, rfl, run_takeDeferred k1, ?_⟩⟩
    refine ⟨_, results_arr_int rfl _ _ (w.heap.size + 1) (w.heap.size + 1 + 1) _ _ _ rfl rfl m1 m2, _, rfl, (m4 _ _ _ _ _ k5).mono (by omega) ?_, m3⟩
    have := (grownBy_putObj' V D' (.deferred none)).size
    omega
  case stop =>
    rintro D' c' pre W hD' hSp ⟨rfl, C, h1, h2, h3, h4, h5⟩ hK
    obtain ⟨k, hk, rfl⟩ := hSp
    have hR : redL g t R = (C, []) := by
      have q := accR_to (g := g) (t := t) HRL.out k hk
      have h2' : (accR g t R M ((List.finRange M).take k)).1 = C := h2
      rw [q] at h2'
      have q2 := redL_left (g := g) (t := t) R (M - k) (by rw [h2']; exact h1)
      rw [h2'] at q2
      exact q2
    obtain ⟨rfl, rfl, rfl⟩ := EB.out _ h1 hR
    gi_wp2
    obtain ⟨m1, m2, m3, m4⟩ := red_ret (w := w) (N0 := w.heap.size) (D' := D') (by omega) hK h3 h4 h5
    refine ⟨by simp, .inl ⟨_, _, rfl, run_takeDeferred hK, ?_⟩⟩
    exact ⟨_, results_arr_int rfl _ _ (w.heap.size + 1) (w.heap.size + 1 + 1) _ _ _ rfl rfl m1 m2, _, rfl, arr_zero _ _ _, m3⟩
end Go.Proofs.YtnkacfgbkfkhdaaGreat
namespace Go.Proofs.YtnkacfgbkfkhdaaGreat
set_option linter.unusedVariables false
theorem flat_atR {N : Nat} {g : Nat → List Int} (k : Nat) : ∀ n, k < n → (∀ i, i < n → (g i).length = N) → (((List.range n).flatMap g).drop (k * N)).take N = g k ∧ ((List.range n).flatMap g).length = n * N := by
  intro n
  induction n with
  | zero => intro h; omega
  | succ n ih =>
    intro hk hl
    have hlen : ∀ m, m ≤ n + 1 → ((List.range m).flatMap g).length = m * N := by
      intro m
      induction m with
      | zero => intro _; simp
      | succ m im => intro hm; rw [List.range_succ, List.flatMap_append, List.length_append, im (by omega)]; simp [hl m (by omega), Nat.succ_mul]
    refine ⟨?_, hlen _ (Nat.le_refl _)⟩
    have hn := hlen n (by omega)
    rw [List.range_succ, List.flatMap_append]
    by_cases e : k < n
    · have q := (ih e (fun i hi => hl i (by omega))).1
      have hle : k * N + N ≤ n * N := by
        have : (k + 1) * N ≤ n * N := Nat.mul_le_mul_right _ (by omega)
        rw [Nat.succ_mul] at this; exact this
      rw [List.drop_append_of_le_length (by omega), List.take_append_of_le_length (by rw [List.length_drop]; omega)]
      exact q
    · obtain rfl : k = n := by omega
      rw [List.drop_append, List.drop_of_length_le (by omega), hn, Nat.sub_self]
      simp
      exact List.take_of_length_le (by rw [hl k (by omega)]; exact Nat.le_refl _)
theorem beg_facts {n0 : Int} {t d : List Int} (ho : arrOk (n0 :: t) d = true) {k : Nat} (hk : k < n0.toNat) :
    0 ≤ sizeV (((k + 1 : Nat) : Int) :: t) ∧ arrOk (((k + 1 : Nat) : Int) :: t) (chosenD (n0 :: t) d (fun j => 0 + (j : Int)) (k + 1)) = true ∧ rowsD (((k + 1 : Nat) : Int) :: t) (chosenD (n0 :: t) d (fun j => 0 + (j : Int)) (k + 1)) = (rowsD (n0 :: t) d).take (k + 1) := by
  have hh := head_bd ho
  simp only [List.getD_cons_zero] at hh
  obtain ⟨p0, p1, p2⟩ := tail_size ho (by omega)
  obtain ⟨N, hN⟩ : ∃ N : Nat, sizeV t = N := ⟨(sizeV t).toNat, by omega⟩
  obtain ⟨k1, k2, k3, k4⟩ := sizeV_ok (arrOk_shape ho)
  have hz := arrOk_size ho
  rw [prodV_cons] at k3 k4
  simp only [List.all_cons, Bool.and_eq_true] at k2
  have q0 := (prodV_bd t k2.2).1
  have eN : ∀ z : Int, rowN (z :: t) = N := fun z => by simp [rowN, hN]
  have eP : sizeV t = prodV t := (sizeV_ok p0).2.2.2
  have hle : ((k : Int) + 1) * prodV t ≤ n0 * prodV t := Int.mul_le_mul_of_nonneg_right (by omega) q0
  have hS : sizeV (((k + 1 : Nat) : Int) :: t) = ((k : Int) + 1) * prodV t := by
    unfold sizeV
    have e1 : ¬ 3 < (((k + 1 : Nat) : Int) :: t).length := by simp at k1 ⊢; omega
    have e2 : (((k + 1 : Nat) : Int) :: t).all dimOk = true := by
      simp only [List.all_cons, Bool.and_eq_true]
      refine ⟨?_, k2.2⟩
      unfold dimOk
      simp
      omega
    have e3 : prodV (((k + 1 : Nat) : Int) :: t) = ((k : Int) + 1) * prodV t := by rw [prodV_cons]; simp
    rw [if_neg e1, if_pos e2, e3, if_neg (by omega)]
  have hrl : ∀ i, i < k + 1 → (rowAt (n0 :: t) d i).length = N := fun i hi => by
    have q := rowAt_length ho (by simp) (i := i) (by simp [rowsN]; omega)
    rw [q, eN]
  have hX : chosenD (n0 :: t) d (fun j => 0 + (j : Int)) (k + 1) = (List.range (k + 1)).flatMap (fun i => rowAt (n0 :: t) d i) := by
    unfold chosenD
    rw [List.flatMap_def, List.flatMap_def]
    congr 1
    apply List.map_congr_left
    intro i hi
    have hi2 : i < k + 1 := by simpa using hi
    unfold chosenRow
    rw [if_pos (by simp; omega)]
    simp
  have hlen := (flat_atR (N := N) (g := fun i => rowAt (n0 :: t) d i) 0 (k + 1) (by omega) hrl).2
  rw [hX]
  refine ⟨by rw [hS]; exact Int.mul_nonneg (by omega) q0, ?_, ?_⟩
  · simp only [arrOk, Bool.and_eq_true, decide_eq_true_eq, List.all_eq_true] at ho ⊢
    refine ⟨by rw [hS, hlen, ← eP, hN]; simp, fun x hx => ?_⟩
    obtain ⟨i, _, hx2⟩ := List.mem_flatMap.1 hx
    exact ho.2 x (List.mem_of_mem_drop (List.mem_of_mem_take hx2))
  · have e : rowsN (((k + 1 : Nat) : Int) :: t) = k + 1 := by simp [rowsN]
    apply List.ext_getElem
    · rw [rowsD_len, List.length_take, rowsD_len, e]
      simp [rowsN]
      omega
    · intro i h1 h2
      have hi : i < k + 1 := by rw [rowsD_len, e] at h1; exact h1
      have q1 := rowsD_at (((k + 1 : Nat) : Int) :: t) ((List.range (k + 1)).flatMap (fun i => rowAt (n0 :: t) d i)) (i := i) (by rw [e]; exact hi)
      have q2 := rowsD_at (n0 :: t) d (i := i) (by simp [rowsN]; omega)
      have q3 := take_getD (R := rowsD (n0 :: t) d) (k := k + 1) (i := i) h2
      have g1 : (rowsD (((k + 1 : Nat) : Int) :: t) ((List.range (k + 1)).flatMap (fun i => rowAt (n0 :: t) d i)))[i] = (rowsD (((k + 1 : Nat) : Int) :: t) ((List.range (k + 1)).flatMap (fun i => rowAt (n0 :: t) d i))).getD i [] := by simp only [List.getD, List.getElem?_eq_getElem h1, Option.getD_some]
      have g2 : ((rowsD (n0 :: t) d).take (k + 1))[i] = ((rowsD (n0 :: t) d).take (k + 1)).getD i [] := by simp only [List.getD, List.getElem?_eq_getElem h2, Option.getD_some]
      rw [g1, g2, q1, q3, q2]
      have q4 := (flat_atR (N := N) (g := fun i => rowAt (n0 :: t) d i) i (k + 1) hi hrl).1
      refine Eq.trans ?_ q4
      show (List.drop (i * rowN (((k + 1 : Nat) : Int) :: t)) _).take (rowN (((k + 1 : Nat) : Int) :: t)) = _
      rw [eN]
end Go.Proofs.YtnkacfgbkfkhdaaGreat
namespace Go.Proofs.YtnkacfgbkfkhdaaGreat
set_option linter.unusedVariables false
theorem chosen_in {s d : List Int} (ho : arrOk s d = true) (hs : s ≠ []) {f : Nat} {φ : Nat → Int} : ∀ (n : Nat), f + n ≤ rowsN s → (∀ k, k < n → φ k = ((f + k : Nat) : Int)) → chosenD s d φ n = (d.drop (f * rowN s)).take (n * rowN s) := by
  have e2 := (rowsN5 ho).2
  intro n
  induction n with
  | zero => intro _ _; simp [chosenD]
  | succ n ih =>
    intro h hφ
    rw [chosenD_succ, ih (by omega) (fun k hk => hφ k (by omega)), Nat.succ_mul, List.take_add, List.drop_drop]
    congr 1
    unfold chosenRow
    rw [hφ n (by omega), if_pos ⟨by omega, by rw [e2]; omega⟩, Int.toNat_natCast]
    unfold rowAt
    rw [Nat.add_mul]
theorem chosen_out {s d : List Int} {φ : Nat → Int} : ∀ (n : Nat), (∀ k, k < n → ¬ (0 ≤ φ k ∧ φ k < s.getD 0 0)) → chosenD s d φ n = List.replicate (n * rowN s) 0 := by
  intro n
  induction n with
  | zero => intro _; simp [chosenD]
  | succ n ih =>
    intro h
    rw [chosenD_succ, ih (fun k hk => h k (by omega))]
    unfold chosenRow
    rw [if_neg (h n (by omega)), List.replicate_append_replicate, Nat.succ_mul]
theorem chosen_add (s d : List Int) (φ : Nat → Int) (m : Nat) : ∀ n, chosenD s d φ (m + n) = chosenD s d φ m ++ chosenD s d (fun k => φ (m + k)) n := by
  intro n
  induction n with
  | zero => simp [chosenD]
  | succ n ih => rw [← Nat.add_assoc, chosenD_succ, ih, chosenD_succ, List.append_assoc]
theorem rowsS_ok {t e : List Int} (h : arrOk t e = true) : arrOk (rowsS t) e = true ∧ rowsS t ≠ [] ∧ vecS t e = rowsS t := by
  unfold rowsS vecS
  by_cases ht : t = []
  · subst ht
    have z := arrOk_size h
    rw [sizeV_0'] at z
    have e1 : e.length = 1 := by omega
    refine ⟨?_, by simp, by rw [if_pos rfl, if_pos rfl, e1]; rfl⟩
    unfold arrOk at *
    rw [if_pos rfl]
    rw [Bool.and_eq_true] at *
    exact ⟨by rw [e1]; decide, h.2⟩
  · rw [if_neg ht, if_neg ht]
    exact ⟨h, ht, rfl⟩
theorem take_chosen {t e : List Int} {x : Int} (h : arrOk t e = true) : chosenD (rowsS t) e (fun k => (if x < 0 then (rowsS t).getD 0 0 + x else 0) + (k : Int)) (manyV x).toNat = takeD x t e := by
  obtain ⟨ho, hs, hv⟩ := rowsS_ok h
  obtain ⟨e1, e2⟩ := rowsN5 ho
  have q := rows5 ho hs
  unfold takeD haveN
  rw [hv]
  generalize hM : (manyV x).toNat = M
  generalize hH : min M (rowsN (rowsS t)) = H
  by_cases hx : 0 ≤ x
  · rw [if_pos hx]
    have : M = H + (M - H) := by omega
    conv => lhs; rw [this]
    rw [chosen_add, chosen_in ho hs (f := 0) H (by omega) (fun k hk => by rw [if_neg (by omega)]; omega), chosen_out (M - H) (fun k hk => by rw [if_neg (by omega), e2]; omega)]
    simp
  · rw [if_neg hx]
    have hm : (M : Int) = -x := by rw [← hM]; unfold manyV; rw [if_neg (by omega)]; omega
    have : M = (M - H) + H := by omega
    conv => lhs; rw [this]
    rw [chosen_add, chosen_out (M - H) (fun k hk => by rw [if_pos (by omega), e2]; omega), chosen_in ho hs (f := rowsN (rowsS t) - H) H (by omega) (fun k hk => by rw [if_pos (by omega), e2]; omega)]
    congr 1
    apply List.take_of_length_le
    rw [List.length_drop, ← q, ← Nat.sub_mul]
    apply Nat.mul_le_mul_right
    omega
theorem drop_chosen {t e : List Int} {x : Int} (h : arrOk t e = true) : chosenD (rowsS t) e (fun k => (if x < 0 then 0 else x) + (k : Int)) (rowsN (vecS t e) - haveN x t e) = dropD x t e := by
  obtain ⟨ho, hs, hv⟩ := rowsS_ok h
  obtain ⟨e1, e2⟩ := rowsN5 ho
  have q := rows5 ho hs
  unfold dropD haveN
  rw [hv]
  generalize hM : (manyV x).toNat = M
  generalize hH : min M (rowsN (rowsS t)) = H
  by_cases hx : 0 ≤ x
  · rw [if_pos hx]
    have hm : (M : Int) = x := by rw [← hM]; unfold manyV; split <;> omega
    by_cases hc : M ≤ rowsN (rowsS t)
    · rw [chosen_in ho hs (f := H) (rowsN (rowsS t) - H) (by omega) (fun k hk => by rw [if_neg (by omega)]; omega)]
      apply List.take_of_length_le
      rw [List.length_drop, ← q, ← Nat.sub_mul]
      exact Nat.le_refl _
    · have hz : rowsN (rowsS t) - H = 0 := by omega
      have hz2 : H = rowsN (rowsS t) := by omega
      rw [hz, hz2, q, List.drop_length]
      rfl
  · rw [if_neg hx]
    rw [chosen_in ho hs (f := 0) (rowsN (rowsS t) - H) (by omega) (fun k hk => by rw [if_pos (by omega)]; omega)]
    simp
theorem drop_count {t e : List Int} {x : Int} (h : arrOk t e = true) : (((rowsN (vecS t e) - haveN x t e : Nat)) : Int) = max (if x < 0 then (rowsS t).getD 0 0 + x else (rowsS t).getD 0 0 - x) 0 := by
  obtain ⟨ho, hs, hv⟩ := rowsS_ok h
  obtain ⟨e1, e2⟩ := rowsN5 ho
  unfold haveN manyV
  rw [hv, e2]
  by_cases hx : x < 0
  · rw [if_pos hx, if_neg (by omega)]; omega
  · rw [if_neg hx]; split <;> omega
end Go.Proofs.YtnkacfgbkfkhdaaGreat
