
/-
  Walks: the specification's Rows.
-/
import Derived.Test.YtfmheanmkfdjnaiRowsI
import Derived.Test.YtfmheanmkfdjnaiSpecArr
import Derived.Deep.AppendLies
import Derived.Deep.RegionHeld3
import Derived.Test.YtfmheanmkfdjnaiShapeM
namespace Go.Proofs.Ytfmheanmkfdjnai
open Go.RowKit
set_option linter.unusedVariables false
set_option linter.unusedSimpArgs false
theorem info_arr : (Try.prog.info? 26).map (fun i => (i.zero, i.size, i.bytes)) = some (some (.agg #[.slice none 0 0, .slice none 0 0]), 2, 48) := by kernel_rfl
/-- The tail of a shape, wherever its cut lies. -/
def TailAt (w : World) (b1 o1 c : Nat) (t : List Int) : Prop := Ints w (some ⟨b1, o1 + 1, none⟩) t
theorem ints_cut {w : World} {b off : Nat} {l : List Int} {m n : Nat} (h : Ints w (some ⟨b, off, none⟩) l) (hm : m + n ≤ l.length) : Ints w (some ⟨b, off + m, none⟩) ((l.drop m).take n) := by
  by_cases h0 : n = 0
  · subst h0; exact .inl (by simp)
  · rcases h with rfl | ⟨b', off', e, hb, hc⟩
    · simp at hm; omega
    · cases e
      refine .inr ⟨b, off + m, rfl, hb, fun k hk => ?_⟩
      have hk' : k < n := by simp at hk; omega
      have e : ((l.drop m).take n).getD k 0 = l.getD (m + k) 0 := by
        simp [List.getD, List.getElem?_take_of_lt hk']
      rw [e, Nat.add_assoc]
      exact hc (m + k) (by omega)
theorem slice_tail (W : World) (b o n c : Nat) (hc : 1 < c) : (Instr.slice 24 (.slice (some ⟨b, o, none⟩) (n + 1) c) (some (.int .i64 1)) none none).run Try.prog W = .ok (.slice (some ⟨b, o + 1, none⟩) n (c - 1)) W := by
  have hs : (sizeOf 3).run Try.prog W = .ok 1 W := by kernel_rfl
  have he : Try.prog.elem 24 = 3 := by kernel_rfl
  rw [run_slice_l (P := Try.prog) (w := W) 24 (some ⟨b, o, none⟩) (n + 1) c (by rw [he]; exact Try.underlying24) .i64 1 (by decide) (by omega), he, hs]
  simp [Result.andThen, sliced, Addr.add, show ¬ c = 1 by omega]
theorem slice_cut (W : World) (b o n e M N : Nat) (h : M + N ≤ e) (hm : M < e) : (Instr.slice 24 (.slice (some ⟨b, o, none⟩) n e) (some (.int .i64 (M : Int))) (some (.int .i64 ((M : Int) + (N : Int)))) none).run Try.prog W = .ok (.slice (some ⟨b, o + M, none⟩) N (e - M)) W := by
  have hs : (sizeOf 3).run Try.prog W = .ok 1 W := by kernel_rfl
  have he : Try.prog.elem 24 = 3 := by kernel_rfl
  rw [run_slice_lh (P := Try.prog) (w := W) 24 (some ⟨b, o, none⟩) n e (by rw [he]; exact Try.underlying24) .i64 .i64 (M : Int) ((M : Int) + (N : Int)) (by omega) (by omega) (by omega), he, hs]
  have e1 : ((M : Int) + (N : Int)).toNat = M + N := by omega
  simp [Result.andThen, sliced, Addr.add, e1, show ¬ e = M by omega]

theorem wrapI {a : Int} (h0 : 0 ≤ a) (h1 : a ≤ 1099511627776) : IntKind.i64.wrap a = a := by rw [IntKind.wrap_i64]; omega
theorem boxBelow {w w' : World} {g B : Nat} {x y : Value} {t : TypeId} (h : Box w g x y t) (hb : Below B w w') (hg : g < B) : Box w' g x y t := by
  unfold Box at *; rw [hb.block g hg]; exact h
theorem sizeOfBelow {w w' : World} (h : Below w.heap.size w w') : w.heap.size ≤ w'.heap.size := h.size
end Go.Proofs.Ytfmheanmkfdjnai
namespace Go.Proofs.Ytfmheanmkfdjnai
open Go.RowKit
set_option linter.unusedVariables false
set_option linter.unusedSimpArgs false
theorem foldl_mul (l : List Int) (a : Int) : l.foldl (· * ·) a = a * l.foldl (· * ·) 1 := by
  induction l generalizing a with
  | nil => simp
  | cons x l ih => rw [List.foldl_cons, List.foldl_cons, ih (a * x), ih (1 * x), Int.one_mul, Int.mul_assoc]
theorem prodV_cons (x : Int) (l : List Int) : prodV (x :: l) = x * prodV l := by
  unfold prodV
  rw [List.foldl_cons, foldl_mul, Int.one_mul]
theorem tail_size {n0 : Int} {t d : List Int} (h : arrOk (n0 :: t) d = true) (hp : 0 < n0) : 0 ≤ sizeV t ∧ n0 * sizeV t = d.length ∧ sizeV t ≤ 300 := by
  obtain ⟨k1, k2, k3, k4⟩ := sizeV_ok (arrOk_shape h)
  have hz := arrOk_size h
  rw [prodV_cons] at k3 k4
  simp only [List.all_cons, Bool.and_eq_true] at k2
  have p0 := (prodV_bd t k2.2).1
  have p1 : 1 * prodV t ≤ n0 * prodV t := Int.mul_le_mul_of_nonneg_right (by omega) p0
  rw [Int.one_mul] at p1
  have e : sizeV t = prodV t := by
    unfold sizeV
    rw [if_neg (by simp at k1; omega), if_pos k2.2, if_neg (by omega)]
  rw [e]
  exact ⟨p0, by rw [← k4, hz], by omega⟩
theorem flat2_at (n k : Nat) (f g : Nat → List Int) (hk : k < n) : ((List.range n).flatMap (fun i => [f i, g i])).getD (2 * k) [] = f k ∧ ((List.range n).flatMap (fun i => [f i, g i])).getD (2 * k + 1) [] = g k := by
  induction n with
  | zero => omega
  | succ n ih =>
    rw [List.range_succ, List.flatMap_append]
    have hl := flat2_length n (fun i => [f i, g i]) (fun i => rfl)
    rw [getD_app, getD_app, hl]
    by_cases e : k < n
    · rw [if_pos (by omega), if_pos (by omega)]
      exact ih e
    · obtain rfl : k = n := by omega
      rw [if_neg (by omega), if_neg (by omega)]
      rw [show 2 * k - 2 * k = 0 by omega, show 2 * k + 1 - 2 * k = 1 by omega]
      simp
theorem slice_none (W : World) (b : Option Addr) (n e : Nat) : (Instr.slice 24 (.slice b n e) (some (.int .i64 ((0 : Nat) : Int))) (some (.int .i64 ((0 : Nat) : Int))) none).run Try.prog W = .ok (.slice b 0 e) W := by
  have hs : (sizeOf 3).run Try.prog W = .ok 1 W := by kernel_rfl
  have he : Try.prog.elem 24 = 3 := by kernel_rfl
  rw [run_slice_lh (P := Try.prog) (w := W) 24 b n e (by rw [he]; exact Try.underlying24) .i64 .i64 ((0 : Nat) : Int) ((0 : Nat) : Int) (by omega) (by omega) (by omega), he, hs]
  cases b <;> simp [Result.andThen, sliced, Addr.add]
theorem slice_one (W : World) (b o : Nat) : (Instr.slice 24 (.slice (some ⟨b, o, none⟩) (0 + 1) 1) (some (.int .i64 1)) none none).run Try.prog W = .ok (.slice (some ⟨b, o, none⟩) 0 0) W := by
  have hs : (sizeOf 3).run Try.prog W = .ok 1 W := by kernel_rfl
  have he : Try.prog.elem 24 = 3 := by kernel_rfl
  rw [run_slice_l (P := Try.prog) (w := W) 24 (some ⟨b, o, none⟩) (0 + 1) 1 (by rw [he]; exact Try.underlying24) .i64 1 (by decide) (by omega), he, hs]
  simp [Result.andThen, sliced]
/-- A list's length is no more than its room. -/
def CapOk (v : Value) : Prop := ∀ a n c, v = .slice a n c → n ≤ c
theorem capOk_own {w : World} {B : Nat} {e : TypeId} {sz : Nat} {v : Value} {n : Nat} {xs : List Value} (h : w.ownsRow B e sz v n xs) : CapOk v := by
  intro a n' c hv
  rcases h.2 with ⟨e, h0⟩ | ⟨g, cap, cur, e, _, _, hle, _⟩
  · rw [e] at hv; cases hv; exact Nat.le_refl _
  · rw [e] at hv; cases hv; exact hle
theorem arrs_none (B C : Nat) (w : World) (a : Option Addr) (c : Nat) : Arrs B C w (.slice a 0 c) [] := ⟨a, 0, c, rfl, rfl, .inl rfl⟩
end Go.Proofs.Ytfmheanmkfdjnai
namespace Go.Proofs.Ytfmheanmkfdjnai
set_option linter.unusedVariables false
theorem rows_facts {n0 : Int} {t d : List Int} (ho : arrOk (n0 :: t) d = true) :
    ∃ cnt N : Nat, n0 = (cnt : Int) ∧ cnt ≤ 300 ∧ N ≤ 300 ∧ cnt * N = d.length ∧ (rowsF (n0 :: t) d).length = 2 * cnt ∧
      ∀ k, k < cnt → (rowsF (n0 :: t) d).getD (2 * k) [] = t ∧ ∃ D, (rowsF (n0 :: t) d).getD (2 * k + 1) [] = D ∧ D.length = N ∧ arrOk t D = true ∧ ∀ j, j < N → D.getD j 0 = d.getD (k * N + j) 0 := by
  have hh := head_bd ho
  simp only [List.getD_cons_zero] at hh
  obtain ⟨cnt, rfl⟩ : ∃ cnt : Nat, n0 = (cnt : Int) := ⟨n0.toNat, by omega⟩
  have hL : (rowsF ((cnt : Int) :: t) d).length = 2 * cnt := by rw [rowsF_length, if_pos ⟨ho, by simp⟩]; simp
  by_cases hp : 0 < cnt
  · obtain ⟨p0, p1, p2⟩ := tail_size ho (by omega)
    obtain ⟨N, hN⟩ : ∃ N : Nat, sizeV t = N := ⟨(sizeV t).toNat, by omega⟩
    rw [hN] at p1
    have hmul : cnt * N = d.length := by
      have : ((cnt * N : Nat) : Int) = (d.length : Int) := by simpa using p1
      omega
    refine ⟨cnt, N, rfl, by omega, by omega, hmul, hL, fun k hk => ?_⟩
    have hat := flat2_at cnt k (fun _ => t) (fun i => (d.drop (i * N)).take N) hk
    have hR : rowsF ((cnt : Int) :: t) d = (List.range cnt).flatMap (fun i => [t, (d.drop (i * N)).take N]) := by
      unfold rowsF
      rw [if_pos ⟨ho, by simp⟩]
      simp [hN]
    have hle : k * N + N ≤ d.length := by
      have q : (k + 1) * N ≤ cnt * N := Nat.mul_le_mul_right N (by omega)
      rw [hmul, Nat.add_mul, Nat.one_mul] at q
      exact q
    have hlen : ((d.drop (k * N)).take N).length = N := by simp; omega
    rw [hR]
    refine ⟨hat.1, _, hat.2, hlen, ?_, fun j hj => ?_⟩
    · have hd : d.all ok = true := by simp only [arrOk, Bool.and_eq_true] at ho; exact ho.2
      simp only [arrOk, Bool.and_eq_true, decide_eq_true_eq, hlen, hN, true_and]
      rw [List.all_eq_true] at hd ⊢
      exact fun x hx => hd x (List.mem_of_mem_drop (List.mem_of_mem_take hx))
    · simp [List.getD, List.getElem?_take_of_lt hj]
  · obtain rfl : cnt = 0 := by omega
    have hz := arrOk_size ho
    have k4 := (sizeV_ok (arrOk_shape ho)).2.2.2
    rw [prodV_cons] at k4
    rw [show ((0 : Nat) : Int) = 0 from rfl, Int.zero_mul] at k4
    rw [show ((0 : Nat) : Int) = 0 from rfl] at hz
    have hd : d.length = 0 := by omega
    exact ⟨0, 0, rfl, by omega, by omega, by omega, hL, fun k hk => by omega⟩
theorem numAt_index {s d : List Int} (ho : arrOk s d = true) {k : Nat} (hk : k < d.length) : numAtOk s d (indexV s (k : Int)) = true ∧ numAtV s d (indexV s (k : Int)) = d.getD k 0 := by
  have hz := arrOk_size ho
  have q := (place_of_index (s := s) (p := (k : Int)) (by omega) (by omega) (by omega)).2
  have h1 : numAtOk s d (indexV s (k : Int)) = true := by simp [numAtOk, ho, q]
  refine ⟨h1, ?_⟩
  rw [numAt_good h1, q, Int.toNat_natCast]
end Go.Proofs.Ytfmheanmkfdjnai
