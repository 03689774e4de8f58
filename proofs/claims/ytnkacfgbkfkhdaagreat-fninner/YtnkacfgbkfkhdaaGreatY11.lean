/-
  Several texts, one behind the other: RowsI, SpecRows, SpecRows2.
-/
import Derived.Test.YtnkacfgbkfkhdaaGreatY5
import Derived.Test.YtnkacfgbkfkhdaaGreatY7
import Derived.Deep.AppendLies
import Derived.Deep.RegionHeld3
namespace Go.Proofs.YtnkacfgbkfkhdaaGreat
open Go.RowKit
set_option linter.unusedVariables false
set_option linter.unusedSimpArgs false
structure RI (B : Nat) (w0 wr : World) (v : Value) (k : Nat) (xs : List Value) (F : List (List Int)) : Prop where
  own : wr.ownsRow B 26 2 v k xs
  piece : ∀ j, j < 2 * k → Piece B wr.heap.size wr (xs.getD j undef) (F.getD j [])
  apart : ∀ i j, i < j → j < 2 * k → Apart (xs.getD i undef) (xs.getD j undef)
  far : ∀ j, j < 2 * k → ∀ g, v.ownBlock = some g → NotAt g (xs.getD j undef)
  below : Below B w0 wr
  size : B ≤ wr.heap.size
theorem RI.len {B : Nat} {w0 wr : World} {v : Value} {k : Nat} {xs : List Value} {F : List (List Int)} (h : RI B w0 wr v k xs F) : xs.length = 2 * k := by
  have := h.own.1; omega
theorem own_lt {B : Nat} {w : World} {e : TypeId} {sz : Nat} {v : Value} {n : Nat} {xs : List Value} (h : w.ownsRow B e sz v n xs) {g : Nat} (hg : v.ownBlock = some g) : g < w.heap.size := by
  obtain ⟨h1, h2⟩ := h
  rcases h2 with ⟨rfl, _⟩ | ⟨g', cap, cur, rfl, hB, hh, _⟩
  · simp [Value.ownBlock] at hg
  · simp [Value.ownBlock] at hg
    subst hg
    exact lt_of_heapA hh
theorem Piece.grown {B C : Nat} {w w' : World} {u : Value} {m : List Int} {row : Option Nat} (h : Piece B C w u m) (hg : w.grownBy w' row) (hn : ∀ g, row = Option.some g → NotAt g u) : Piece B C w' u m := by
  obtain ⟨a, c, rfl, hle, h⟩ := h
  refine ⟨a, c, rfl, hle, ?_⟩
  rcases h with rfl | ⟨g, off, cur, t, rfl, h1, h2, hh, r⟩
  · exact .inl rfl
  · by_cases h0 : m.length = 0
    · exact .inl (List.eq_nil_of_length_eq_zero h0)
    · refine .inr ⟨g, off, cur, t, rfl, h1, h2, ?_, r⟩
      rw [hg.block g (lt_of_heapA hh) (fun e => h0 (hn g e.symm off m.length c rfl))]
      exact hh
theorem Piece.notAt {B C g : Nat} {w : World} {u : Value} {m : List Int} (h : Piece B C w u m) (hg : g < B ∨ C ≤ g) : NotAt g u := by
  obtain ⟨a, c, rfl, _, h⟩ := h
  intro off n c' e
  cases e
  rcases h with rfl | ⟨g', off, cur, t, e, h1, h2, _⟩
  · rfl
  · cases e; omega
theorem getD_app {α : Type} (xs ys : List α) (j : Nat) (d : α) : (xs ++ ys).getD j d = if j < xs.length then xs.getD j d else ys.getD (j - xs.length) d := by
  simp only [List.getD, List.getElem?_append]
  split <;> rfl
theorem RI.step {B : Nat} {w0 wr w2 w3 : World} {v : Value} {k g cap : Nat} {xs : List Value} {F : List (List Int)} {x y : Value} (h : RI B w0 wr v k xs F) (hb : Below wr.heap.size wr w2)
    (px : Piece wr.heap.size w2.heap.size w2 x (F.getD (2 * k) [])) (py : Piece wr.heap.size w2.heap.size w2 y (F.getD (2 * k + 1) [])) (ha : Apart x y)
    (ho : w3.ownsRow B 26 2 (.slice (some ⟨g, 0, none⟩) (k + 1) cap) (k + 1) (xs ++ [x, y])) (hg : w2.grownBy w3 v.ownBlock) (hat : v.ownBlock = some g ∨ g = w2.heap.size) :
    RI B w0 w3 (.slice (some ⟨g, 0, none⟩) (k + 1) cap) (k + 1) (xs ++ [x, y]) F := by
  have hl := h.len
  have hz := hb.size
  have hB := h.size
  have z3 := hg.size
  have lt : ∀ q, v.ownBlock = some q → q < wr.heap.size := fun q e => own_lt h.own e
  have nx : ∀ q, v.ownBlock = some q → NotAt q x := fun q e => px.notAt (.inl (lt q e))
  have ny : ∀ q, v.ownBlock = some q → NotAt q y := fun q e => py.notAt (.inl (lt q e))
  have at_ : ∀ j, j < 2 * (k + 1) → (j < 2 * k ∧ (xs ++ [x, y]).getD j undef = xs.getD j undef) ∨ (j = 2 * k ∧ (xs ++ [x, y]).getD j undef = x) ∨ (j = 2 * k + 1 ∧ (xs ++ [x, y]).getD j undef = y) := by
    intro j hj
    rw [getD_app, hl]
    by_cases e : j < 2 * k
    · rw [if_pos e]; exact .inl ⟨e, rfl⟩
    · rw [if_neg e]
      by_cases e2 : j = 2 * k
      · subst e2; exact .inr (.inl ⟨rfl, by simp⟩)
      · obtain rfl : j = 2 * k + 1 := by omega
        exact .inr (.inr ⟨rfl, by rw [show 2 * k + 1 - 2 * k = 1 by omega]; rfl⟩)
  refine ⟨ho, fun j hj => ?_, fun i j hij hj => ?_, fun j hj q hq => ?_, ?_, by omega⟩
  · rcases at_ j hj with ⟨e, e2⟩ | ⟨rfl, e2⟩ | ⟨rfl, e2⟩
    · rw [e2]
      exact (((h.piece j e).keep hb).grown hg (h.far j e)).mono (Nat.le_refl _) (by omega)
    · rw [e2]; exact (px.grown hg nx).mono (by omega) (by omega)
    · rw [e2]; exact (py.grown hg ny).mono (by omega) (by omega)
  · rcases at_ j hj with ⟨e, e2⟩ | ⟨rfl, e2⟩ | ⟨rfl, e2⟩
    · rcases at_ i (by omega) with ⟨f, f2⟩ | ⟨rfl, f2⟩ | ⟨rfl, f2⟩
      · rw [e2, f2]; exact h.apart i j hij e
      · omega
      · omega
    · rcases at_ i (by omega) with ⟨f, f2⟩ | ⟨rfl, f2⟩ | ⟨rfl, f2⟩
      · rw [e2, f2]; exact (h.piece i f).apart px (.inl (Nat.le_refl _))
      · omega
      · omega
    · rcases at_ i (by omega) with ⟨f, f2⟩ | ⟨rfl, f2⟩ | ⟨rfl, f2⟩
      · rw [e2, f2]; exact (h.piece i f).apart py (.inl (Nat.le_refl _))
      · rw [e2, f2]; exact ha
      · omega
  · simp [Value.ownBlock] at hq
    subst hq
    rcases at_ j hj with ⟨e, e2⟩ | ⟨rfl, e2⟩ | ⟨rfl, e2⟩
    · rw [e2]
      rcases hat with hat | rfl
      · exact h.far j e g hat
      · exact (h.piece j e).notAt (.inr hz)
    · rw [e2]
      rcases hat with hat | rfl
      · exact nx g hat
      · exact px.notAt (.inr (Nat.le_refl _))
    · rw [e2]
      rcases hat with hat | rfl
      · exact ny g hat
      · exact py.notAt (.inr (Nat.le_refl _))
  · have b2 : Below B w0 w2 := h.below.trans (hb.mono hB)
    refine ⟨hg.os.trans b2.os, hg.tape.trans b2.tape, hg.output.trans b2.output, Nat.le_trans b2.size hg.size, fun q hq => ?_⟩
    rw [hg.block q (by omega) ?_]
    · exact b2.block q hq
    · intro e
      have h2 := h.own.2
      rcases h2 with ⟨rfl, _⟩ | ⟨g', cap', cur, rfl, hB', _⟩
      · simp [Value.ownBlock] at e
      · simp [Value.ownBlock] at e; omega
theorem RI.done {B : Nat} {w0 wr : World} {v : Value} {k : Nat} {xs : List Value} {F : List (List Int)} (h : RI B w0 wr v k xs F) (hF : F.length = 2 * k) : Arrs B wr.heap.size wr v F := by
  have hl := h.len
  have h2 := h.own.2
  rcases h2 with ⟨rfl, rfl⟩ | ⟨g, cap, cur, rfl, hB, hh, hc, hm, hs, ht⟩
  · exact ⟨none, 0, 0, rfl, hF, .inl rfl⟩
  · refine ⟨_, k, cap, rfl, hF, .inr ⟨g, 0, xs, rfl, by omega, hB, lt_of_heapA hh, ⟨cur, _, _, hh, fun j hj => ?_⟩, fun j hj => h.piece j (by omega), fun i j hij hj => h.apart i j hij (by omega), fun j hj => h.far j (by omega) g rfl⟩⟩
    have e : (cur.toList.take (k * 2))[j]? = xs[j]? := by rw [ht]
    rw [List.getElem?_take_of_lt (by omega)] at e
    rw [Nat.zero_add]
    have e3 : xs[j]? = some (xs.getD j undef) := by simp [hj]
    rw [e3] at e
    simpa using e
end Go.Proofs.YtnkacfgbkfkhdaaGreat
namespace Go.Proofs.YtnkacfgbkfkhdaaGreat
open Go.RowKit
set_option linter.unusedVariables false
set_option linter.unusedSimpArgs false
theorem info_arr : (Tryz.prog.info? 26).map (fun i => (i.zero, i.size, i.bytes)) = some (some (.agg #[.slice none 0 0, .slice none 0 0]), 2, 48) := by kernel_rfl
/-- The tail of a shape, wherever its cut lies. -/
def TailAt (w : World) (b1 o1 c : Nat) (t : List Int) : Prop := Ints w (some ⟨b1, o1 + 1, none⟩) t
theorem ints_cut {w : World} {b off : Nat} {l : List Int} {m n : Nat} (h : Ints w (some ⟨b, off, none⟩) l) (hm : m + n ≤ l.length) : Ints w (some ⟨b, off + m, none⟩) ((l.drop m).take n) := by
  by_cases h0 : n = 0
  · subst h0; exact .inl (by simp)
  · rcases h with rfl | ⟨b', off', e, hb, hc⟩
    · simp at hm; omega
    · cases e
      refine .inr ⟨b, off + m, rfl, hb, fun k hk => ?_⟩
      have hk' : k < n := by simp at hk; omega
      have e : ((l.drop m).take n).getD k 0 = l.getD (m + k) 0 := by
        simp [List.getD, List.getElem?_take_of_lt hk']
      rw [e, Nat.add_assoc]
      exact hc (m + k) (by omega)
theorem slice_tail (W : World) (b o n c : Nat) (hc : 1 < c) : (Instr.slice 24 (.slice (some ⟨b, o, none⟩) (n + 1) c) (some (.int .i64 1)) none none).run Tryz.prog W = .ok (.slice (some ⟨b, o + 1, none⟩) n (c - 1)) W := by
  have hs : (sizeOf 3).run Tryz.prog W = .ok 1 W := by kernel_rfl
  have he : Tryz.prog.elem 24 = 3 := by kernel_rfl
  rw [run_slice_l (P := Tryz.prog) (w := W) 24 (some ⟨b, o, none⟩) (n + 1) c (by rw [he]; exact Tryz.underlying24) .i64 1 (by decide) (by omega), he, hs]
  simp [Result.andThen, sliced, Addr.add, show ¬ c = 1 by omega]
theorem slice_cut (W : World) (b o n e M N : Nat) (h : M + N ≤ e) (hm : M < e) : (Instr.slice 24 (.slice (some ⟨b, o, none⟩) n e) (some (.int .i64 (M : Int))) (some (.int .i64 ((M : Int) + (N : Int)))) none).run Tryz.prog W = .ok (.slice (some ⟨b, o + M, none⟩) N (e - M)) W := by
  have hs : (sizeOf 3).run Tryz.prog W = .ok 1 W := by kernel_rfl
  have he : Tryz.prog.elem 24 = 3 := by kernel_rfl
  rw [run_slice_lh (P := Tryz.prog) (w := W) 24 (some ⟨b, o, none⟩) n e (by rw [he]; exact Tryz.underlying24) .i64 .i64 (M : Int) ((M : Int) + (N : Int)) (by omega) (by omega) (by omega), he, hs]
  have e1 : ((M : Int) + (N : Int)).toNat = M + N := by omega
  simp [Result.andThen, sliced, Addr.add, e1, show ¬ e = M by omega]

theorem wrapI {a : Int} (h0 : 0 ≤ a) (h1 : a ≤ 1099511627776) : IntKind.i64.wrap a = a := by rw [IntKind.wrap_i64]; omega
theorem boxBelow {w w' : World} {g B : Nat} {x y : Value} {t : TypeId} (h : Box w g x y t) (hb : Below B w w') (hg : g < B) : Box w' g x y t := by
  unfold Box at *; rw [hb.block g hg]; exact h
theorem sizeOfBelow {w w' : World} (h : Below w.heap.size w w') : w.heap.size ≤ w'.heap.size := h.size
end Go.Proofs.YtnkacfgbkfkhdaaGreat
namespace Go.Proofs.YtnkacfgbkfkhdaaGreat
open Go.RowKit
set_option linter.unusedVariables false
set_option linter.unusedSimpArgs false
theorem foldl_mul (l : List Int) (a : Int) : l.foldl (· * ·) a = a * l.foldl (· * ·) 1 := by
  induction l generalizing a with
  | nil => simp
  | cons x l ih => rw [List.foldl_cons, List.foldl_cons, ih (a * x), ih (1 * x), Int.one_mul, Int.mul_assoc]
theorem prodV_cons (x : Int) (l : List Int) : prodV (x :: l) = x * prodV l := by
  unfold prodV
  rw [List.foldl_cons, foldl_mul, Int.one_mul]
theorem tail_size {n0 : Int} {t d : List Int} (h : arrOk (n0 :: t) d = true) (hp : 0 < n0) : 0 ≤ sizeV t ∧ n0 * sizeV t = d.length ∧ sizeV t ≤ 300 := by
  obtain ⟨k1, k2, k3, k4⟩ := sizeV_ok (arrOk_shape h)
  have hz := arrOk_size h
  rw [prodV_cons] at k3 k4
  simp only [List.all_cons, Bool.and_eq_true] at k2
  have p0 := (prodV_bd t k2.2).1
  have p1 : 1 * prodV t ≤ n0 * prodV t := Int.mul_le_mul_of_nonneg_right (by omega) p0
  rw [Int.one_mul] at p1
  have e : sizeV t = prodV t := by
    unfold sizeV
    rw [if_neg (by simp at k1; omega), if_pos k2.2, if_neg (by omega)]
  rw [e]
  exact ⟨p0, by rw [← k4, hz], by omega⟩
theorem flat2_at (n k : Nat) (f g : Nat → List Int) (hk : k < n) : ((List.range n).flatMap (fun i => [f i, g i])).getD (2 * k) [] = f k ∧ ((List.range n).flatMap (fun i => [f i, g i])).getD (2 * k + 1) [] = g k := by
  induction n with
  | zero => omega
  | succ n ih =>
    rw [List.range_succ, List.flatMap_append]
    have hl := flat2_length n (fun i => [f i, g i]) (fun i => rfl)
    rw [getD_app, getD_app, hl]
    by_cases e : k < n
    · rw [if_pos (by omega), if_pos (by omega)]
      exact ih e
    · obtain rfl : k = n := by omega
      rw [if_neg (by omega), if_neg (by omega)]
      rw [show 2 * k - 2 * k = 0 by omega, show 2 * k + 1 - 2 * k = 1 by omega]
      simp
theorem slice_none (W : World) (b : Option Addr) (n e : Nat) : (Instr.slice 24 (.slice b n e) (some (.int .i64 ((0 : Nat) : Int))) (some (.int .i64 ((0 : Nat) : Int))) none).run Tryz.prog W = .ok (.slice b 0 e) W := by
  have hs : (sizeOf 3).run Tryz.prog W = .ok 1 W := by kernel_rfl
  have he : Tryz.prog.elem 24 = 3 := by kernel_rfl
  rw [run_slice_lh (P := Tryz.prog) (w := W) 24 b n e (by rw [he]; exact Tryz.underlying24) .i64 .i64 ((0 : Nat) : Int) ((0 : Nat) : Int) (by omega) (by omega) (by omega), he, hs]
  cases b <;> simp [Result.andThen, sliced, Addr.add]
theorem slice_one (W : World) (b o : Nat) : (Instr.slice 24 (.slice (some ⟨b, o, none⟩) (0 + 1) 1) (some (.int .i64 1)) none none).run Tryz.prog W = .ok (.slice (some ⟨b, o, none⟩) 0 0) W := by
  have hs : (sizeOf 3).run Tryz.prog W = .ok 1 W := by kernel_rfl
  have he : Tryz.prog.elem 24 = 3 := by kernel_rfl
  rw [run_slice_l (P := Tryz.prog) (w := W) 24 (some ⟨b, o, none⟩) (0 + 1) 1 (by rw [he]; exact Tryz.underlying24) .i64 1 (by decide) (by omega), he, hs]
  simp [Result.andThen, sliced]
/-- A list's length is no more than its room. -/
def CapOk (v : Value) : Prop := ∀ a n c, v = .slice a n c → n ≤ c
theorem capOk_own {w : World} {B : Nat} {e : TypeId} {sz : Nat} {v : Value} {n : Nat} {xs : List Value} (h : w.ownsRow B e sz v n xs) : CapOk v := by
  intro a n' c hv
  rcases h.2 with ⟨e, h0⟩ | ⟨g, cap, cur, e, _, _, hle, _⟩
  · rw [e] at hv; cases hv; exact Nat.le_refl _
  · rw [e] at hv; cases hv; exact hle
theorem arrs_none (B C : Nat) (w : World) (a : Option Addr) (c : Nat) : Arrs B C w (.slice a 0 c) [] := ⟨a, 0, c, rfl, rfl, .inl rfl⟩
end Go.Proofs.YtnkacfgbkfkhdaaGreat
