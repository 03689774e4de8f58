/-
  Several texts, one behind the other: ImplRows3, SpecMake4, RowsO.
-/
import Derived.Test.YtnkacfgbkfkhdaaGreatY25
import Derived.Test.YtnkacfgbkfkhdaaGreatY5
import Derived.Test.YtnkacfgbkfkhdaaGreatY19
import Derived.Test.YtnkacfgbkfkhdaaGreatY3
import Derived.Test.YtnkacfgbkfkhdaaGreatY11
namespace Go.Proofs.YtnkacfgbkfkhdaaGreat
open Go.RowKit
set_option linter.unusedVariables false
set_option linter.unusedSimpArgs false
theorem finRange_val (n : Nat) : (List.finRange n).map (fun k => k.1) = List.range n := by
  apply List.ext_getElem
  · simp
  · intro i h1 h2
    simp
theorem finRange_flat (n : Nat) (f : Nat → List (List Int)) : (List.finRange n).flatMap (fun k => f k.1) = (List.range n).flatMap f := by
  rw [← finRange_val, List.flatMap_map]
theorem slice_tail3 (W : World) (b o n c : Nat) (hc : n + 1 ≤ c) : (Instr.slice 24 (.slice (some ⟨b, o, none⟩) (n + 1) c) (some (.int .i64 1)) (some (.int .i64 ((n : Int) + 1))) (some (.int .i64 ((n : Int) + 1)))).run Tryz.prog W = .ok (.slice (if n = 0 then some ⟨b, o, none⟩ else some ⟨b, o + 1, none⟩) n n) W := by
  have hs : (sizeOf 3).run Tryz.prog W = .ok 1 W := by kernel_rfl
  have he : Tryz.prog.elem 24 = 3 := by kernel_rfl
  rw [run_slice_lhm (P := Tryz.prog) (w := W) 24 (some ⟨b, o, none⟩) (n + 1) c (by rw [he]; exact Tryz.underlying24) .i64 .i64 .i64 1 ((n : Int) + 1) ((n : Int) + 1) (by decide) (by omega) (by omega) (by omega), he, hs]
  have e1 : ((n : Int) + 1).toNat = n + 1 := by omega
  by_cases h0 : n = 0
  · subst h0; simp [Result.andThen, sliced, Addr.add]
  · simp [Result.andThen, sliced, Addr.add, e1, h0]
theorem slice_cut3 (W : World) (b : Option Addr) (n e M R N : Nat) (h : M + N = R) (hR : R ≤ e) : (Instr.slice 24 (.slice b n e) (some (.int .i64 (M : Int))) (some (.int .i64 (R : Int))) (some (.int .i64 (R : Int)))).run Tryz.prog W = .ok (.slice (if N = 0 then b else b.map (·.add M)) N N) W := by
  have hs : (sizeOf 3).run Tryz.prog W = .ok 1 W := by kernel_rfl
  have he : Tryz.prog.elem 24 = 3 := by kernel_rfl
  rw [run_slice_lhm (P := Tryz.prog) (w := W) 24 b n e (by rw [he]; exact Tryz.underlying24) .i64 .i64 .i64 (M : Int) (R : Int) (R : Int) (by omega) (by omega) (by omega) (by omega), he, hs]
  have e2 : R - M = N := by omega
  by_cases h0 : N = 0
  · have e3 : R = M := by omega
    simp [Result.andThen, sliced, h0, e3]
  · have e3 : ¬ R = M := by omega
    simp [Result.andThen, sliced, h0, e3, e2]
end Go.Proofs.YtnkacfgbkfkhdaaGreat
namespace Go.Proofs.YtnkacfgbkfkhdaaGreat
open Go.RowKit
set_option linter.unusedVariables false
set_option linter.unusedSimpArgs false
/-- The numbers of the first n arrays of a list, one behind the other. -/
def catF (F : List (List Int)) (n : Nat) : List Int := (List.range n).flatMap (fun i => F.getD (2 * i + 1) [])
theorem catF_succ (F : List (List Int)) (n : Nat) : catF F (n + 1) = catF F n ++ F.getD (2 * n + 1) [] := by
  unfold catF; rw [List.range_succ, List.flatMap_append]; simp
theorem catF_mono (F : List (List Int)) {k n : Nat} (h : k ≤ n) : (catF F k).length ≤ (catF F n).length := by
  induction n with
  | zero => obtain rfl : k = 0 := by omega
            exact Nat.le_refl _
  | succ n ih =>
    by_cases e : k = n + 1
    · subst e; exact Nat.le_refl _
    · rw [catF_succ, List.length_append]
      have := ih (by omega)
      omega
end Go.Proofs.YtnkacfgbkfkhdaaGreat
namespace Go.Proofs.YtnkacfgbkfkhdaaGreat
open Go.RowKit
set_option linter.unusedVariables false
set_option linter.unusedSimpArgs false
/-- The tail of a list of one number or more. -/
theorem tail_cut {w : World} {a : Option Addr} {n0 : Int} {t : List Int} {c : Nat} (h : Ints w a (n0 :: t)) (hc : t.length + 1 ≤ c) :
    ∃ tl ct, (∀ W, (Instr.slice 24 (.slice a (t.length + 1) c) (some (.int .i64 1)) none none).run Tryz.prog W = .ok (.slice tl t.length ct) W) ∧ IntsI w (.slice tl t.length ct) t := by
  rcases h with h | ⟨b, o, rfl, hb, hc'⟩
  · cases h
  · by_cases e : 1 < c
    · refine ⟨some ⟨b, o + 1, none⟩, c - 1, fun W => slice_tail W b o t.length c e, _, _, rfl, by omega, .inr ⟨b, o + 1, rfl, hb, fun k hk => ?_⟩⟩
      have := hc' (k + 1) (by simp; omega)
      rw [show o + 1 + k = o + (k + 1) from by omega, this]
      simp
    · obtain rfl : c = 1 := by omega
      obtain rfl : t = [] := List.eq_nil_of_length_eq_zero (by omega)
      exact ⟨some ⟨b, o, none⟩, 0, fun W => slice_one W b o, _, _, rfl, by simp, .inl rfl⟩
/-- Arrays of a list, by their numbers. -/
def pickF (F : List (List Int)) (idx : Nat → Nat) (k : Nat) : List (List Int) := (List.range k).flatMap (fun i => [F.getD (2 * idx i) [], F.getD (2 * idx i + 1) []])
theorem pickF_length (F : List (List Int)) (idx : Nat → Nat) (k : Nat) : (pickF F idx k).length = 2 * k := flat2_length k _ (fun _ => rfl)
theorem pickF_succ (F : List (List Int)) (idx : Nat → Nat) (k : Nat) : pickF F idx (k + 1) = pickF F idx k ++ [F.getD (2 * idx k) [], F.getD (2 * idx k + 1) []] := by
  unfold pickF; rw [List.range_succ, List.flatMap_append]; simp
theorem pickF_at (F : List (List Int)) (idx : Nat → Nat) {k i : Nat} (h : i < k) : (pickF F idx k).getD (2 * i + 1) [] = F.getD (2 * idx i + 1) [] := by
  induction k with
  | zero => omega
  | succ k ih =>
    rw [pickF_succ, List.getD_eq_getElem?_getD]
    by_cases e : i = k
    · subst e
      rw [List.getElem?_append_right (by rw [pickF_length]; omega), pickF_length, show 2 * i + 1 - 2 * i = 1 from by omega]
      rfl
    · rw [List.getElem?_append_left (by rw [pickF_length]; omega), ← List.getD_eq_getElem?_getD]
      exact ih (by omega)
theorem catF_pick (F : List (List Int)) (idx : Nat → Nat) (n : Nat) : catF (pickF F idx n) n = (List.range n).flatMap (fun i => F.getD (2 * idx i + 1) []) := by
  unfold catF
  rw [List.flatMap_def, List.flatMap_def]
  congr 1
  apply List.map_congr_left
  intro i hi
  exact pickF_at F idx (by simpa using hi)
/-- The list that is made: its cells, and that each list in it can be read in the world in which it began. -/
structure ListAt (W0 wr : World) (v : Value) (k : Nat) (xs : List Value) (F : List (List Int)) : Prop where
  own : wr.ownsRow W0.heap.size 26 2 v k xs
  ints : ∀ j, j < 2 * k → IntsI W0 (xs.getD j undef) (F.getD j [])
  len : F.length = 2 * k
  below : Below W0.heap.size W0 wr
theorem listAt_new (w : World) : ListAt w (w.alloc (.cells #[] 26)) (.slice (some ⟨w.heap.size, 0, none⟩) 0 0) 0 [] [] := by
  refine ⟨⟨rfl, .inr ⟨w.heap.size, 0, #[], rfl, Nat.le_refl _, heap_alloc_new w _, Nat.le_refl _, by unfold maxLen; omega, rfl, rfl⟩⟩, ?_, rfl, bAlloc (Below.refl _ _) _⟩
  intro j hj; omega
theorem ListAt.arrsI {W0 wr : World} {v : Value} {k : Nat} {xs : List Value} {F : List (List Int)} (h : ListAt W0 wr v k xs F) : ArrsI wr v F := by
  rcases h.own.2 with ⟨rfl, h0⟩ | ⟨g, cap, cur, rfl, hB, hg, hle, hmax, hsz, htk⟩
  · subst h0
    exact ⟨none, 0, 0, rfl, h.len, .inl rfl⟩
  · refine ⟨_, k, cap, rfl, h.len, .inr ⟨g, 0, xs, rfl, lt_of_heapA hg, by rw [h.len, h.own.1]; omega, fun j hj => ⟨?_, (h.ints j (by rw [h.own.1] at hj; omega)).keep h.below⟩⟩⟩
    have hx := h.own.1
    have hj' : j < k * 2 := by rw [← hx]; exact hj
    refine cell_at (fr := (0, 0)) hg ?_
    rw [Nat.zero_add]
    have e : (cur.toList.take (k * 2))[j]? = xs[j]? := by rw [htk]
    rw [List.getElem?_take_of_lt hj'] at e
    rw [← Array.getElem?_toList, e]
    simp [hj]
theorem getD_snoc2 {α : Type} (xs : List α) (x y z : α) {k : Nat} (hx : xs.length = k) : (∀ j, j < k → (xs ++ [x, y]).getD j z = xs.getD j z) ∧ (xs ++ [x, y]).getD k z = x ∧ (xs ++ [x, y]).getD (k + 1) z = y := by
  subst hx
  refine ⟨fun j hj => ?_, ?_, ?_⟩
  · simp only [List.getD_eq_getElem?_getD]; rw [List.getElem?_append_left hj]
  · simp
  · simp only [List.getD_eq_getElem?_getD]; rw [List.getElem?_append_right (by omega), show xs.length + 1 - xs.length = 1 from by omega]; rfl
/-- One array more. -/
theorem ListAt.grow {W0 wr : World} {v : Value} {k : Nat} {xs : List Value} {F : List (List Int)} (h : ListAt W0 wr v k xs F) (hk : k < 1000000) {x y : Value} {s d : List Int} (hx : IntsI W0 x s) (hy : IntsI W0 y d) :
    ∃ a' c' w', (Builtin.append_ #[48, 48] 48 #[v, .slice (some ⟨wr.heap.size, 0, none⟩) 1 1]).run Tryz.prog (wr.alloc (.cells #[x, y] 26)) = .ok (.slice a' (k + 1) c') w' ∧ ListAt W0 w' (.slice a' (k + 1) c') (k + 1) (xs ++ [x, y]) (F ++ [s, d]) := by
  obtain ⟨i, hq, z1, z2, z3⟩ : ∃ i, Tryz.prog.info? 26 = some i ∧ i.zero = some (.agg #[.slice none 0 0, .slice none 0 0]) ∧ i.size = 2 ∧ i.bytes = 48 := by
    have hi := info_arr
    cases hq : Tryz.prog.info? 26 with
    | none => rw [hq] at hi; cases hi
    | some i => rw [hq] at hi; simp at hi; exact ⟨i, rfl, hi.1, hi.2.1, hi.2.2⟩
  have hx' := hx
  have hy' := hy
  obtain ⟨a1, c1, rfl, _, _⟩ := hx
  obtain ⟨a2, c2, rfl, _, _⟩ := hy
  obtain ⟨v', w', hr, h2, h3, _, _⟩ := run_append_own_at (P := Tryz.prog) (wr.alloc (.cells #[.slice a1 s.length c1, .slice a2 d.length c2] 26)) W0.heap.size 48 48 26 i _ 2 48 Tryz.underlying48 hq z1 z2 z3 rfl (by decide) v k xs (ownsRow_keep h.own (bAlloc (Below.refl _ _) _)) ⟨wr.heap.size, 0, none⟩ 1 1 [.slice a1 s.length c1, .slice a2 d.length c2] rfl (World.news_of_block (cs := #[.slice a1 s.length c1, .slice a2 d.length c2]) (heap_alloc_new wr _)) (by simp [Value.oneCell']) (by unfold maxLen; omega) (by omega) (by have := h.below.size; simp; omega)
  obtain ⟨g, cap, hv, _, _⟩ := h2.form (by omega)
  subst hv
  have hb : Below W0.heap.size W0 w' := by
    have := h.below.size
    refine (bAlloc h.below (.cells #[.slice a1 s.length c1, .slice a2 d.length c2] 26)).trans (grown_below h3 (fun r e => ?_) (by simp; omega))
    rcases h.own.2 with ⟨rfl, _⟩ | ⟨g', cap', cur, rfl, hB, _⟩
    · cases e
    · cases e; exact hB
  obtain ⟨q1, q2, q3⟩ := getD_snoc2 xs (.slice a1 s.length c1) (.slice a2 d.length c2) undef (k := 2 * k) (by rw [h.own.1]; omega)
  obtain ⟨p1, p2, p3⟩ := getD_snoc2 F s d [] (k := 2 * k) h.len
  refine ⟨_, _, w', hr, h2, fun j hj => ?_, by rw [List.length_append, h.len]; simp; omega, hb⟩
  by_cases e : j < 2 * k
  · rw [q1 j e, p1 j e]; exact h.ints j e
  · by_cases e2 : j = 2 * k
    · subst e2; rw [q2, p2]; exact hx'
    · obtain rfl : j = 2 * k + 1 := by omega
      rw [q3, p3]; exact hy'
end Go.Proofs.YtnkacfgbkfkhdaaGreat
