
/-
  The specification's contract of Rows.
-/
import Derived.Test.YtcaidhmolnnikaaDoorSpecRows
namespace Go.Proofs.YtcaidhmolnnikaaDoor
open Go.RowKit
set_option linter.unusedVariables false
set_option linter.unusedSimpArgs false
theorem foldl_mul (l : List Int) (a : Int) : l.foldl (· * ·) a = a * l.foldl (· * ·) 1 := by
  induction l generalizing a with
  | nil => simp
  | cons x l ih => rw [List.foldl_cons, List.foldl_cons, ih (a * x), ih (1 * x), Int.one_mul, Int.mul_assoc]
theorem prodV_cons (x : Int) (l : List Int) : prodV (x :: l) = x * prodV l := by
  unfold prodV
  rw [List.foldl_cons, foldl_mul, Int.one_mul]
theorem tail_size {n0 : Int} {t d : List Int} (h : arrOk (n0 :: t) d = true) (hp : 0 < n0) : 0 ≤ sizeV t ∧ n0 * sizeV t = d.length ∧ sizeV t ≤ 300 := by
  obtain ⟨k1, k2, k3, k4⟩ := sizeV_ok (arrOk_shape h)
  have hz := arrOk_size h
  rw [prodV_cons] at k3 k4
  simp only [List.all_cons, Bool.and_eq_true] at k2
  have p0 := (prodV_bd t k2.2).1
  have p1 : 1 * prodV t ≤ n0 * prodV t := Int.mul_le_mul_of_nonneg_right (by omega) p0
  rw [Int.one_mul] at p1
  have e : sizeV t = prodV t := by
    unfold sizeV
    rw [if_neg (by simp at k1; omega), if_pos k2.2, if_neg (by omega)]
  rw [e]
  exact ⟨p0, by rw [← k4, hz], by omega⟩
theorem flat2_at (n k : Nat) (f g : Nat → List Int) (hk : k < n) : ((List.range n).flatMap (fun i => [f i, g i])).getD (2 * k) [] = f k ∧ ((List.range n).flatMap (fun i => [f i, g i])).getD (2 * k + 1) [] = g k := by
  induction n with
  | zero => omega
  | succ n ih =>
    rw [List.range_succ, List.flatMap_append]
    have hl := flat2_length n (fun i => [f i, g i]) (fun i => rfl)
    rw [getD_app, getD_app, hl]
    by_cases e : k < n
    · rw [if_pos (by omega), if_pos (by omega)]
      exact ih e
    · obtain rfl : k = n := by omega
      rw [if_neg (by omega), if_neg (by omega)]
      rw [show 2 * k - 2 * k = 0 by omega, show 2 * k + 1 - 2 * k = 1 by omega]
      simp
theorem slice_none (W : World) (b : Option Addr) (n e : Nat) : (Instr.slice 22 (.slice b n e) (some (.int .i64 ((0 : Nat) : Int))) (some (.int .i64 ((0 : Nat) : Int))) none).run Tryd.prog W = .ok (.slice b 0 e) W := by
  have hs : (sizeOf 3).run Tryd.prog W = .ok 1 W := by kernel_rfl
  have he : Tryd.prog.elem 22 = 3 := by kernel_rfl
  rw [run_slice_lh (P := Tryd.prog) (w := W) 22 b n e (by rw [he]; exact Tryd.underlying22) .i64 .i64 ((0 : Nat) : Int) ((0 : Nat) : Int) (by omega) (by omega) (by omega), he, hs]
  cases b <;> simp [Result.andThen, sliced, Addr.add]
theorem slice_one (W : World) (b o : Nat) : (Instr.slice 22 (.slice (some ⟨b, o, none⟩) (0 + 1) 1) (some (.int .i64 1)) none none).run Tryd.prog W = .ok (.slice (some ⟨b, o, none⟩) 0 0) W := by
  have hs : (sizeOf 3).run Tryd.prog W = .ok 1 W := by kernel_rfl
  have he : Tryd.prog.elem 22 = 3 := by kernel_rfl
  rw [run_slice_l (P := Tryd.prog) (w := W) 22 (some ⟨b, o, none⟩) (0 + 1) 1 (by rw [he]; exact Tryd.underlying22) .i64 1 (by decide) (by omega), he, hs]
  simp [Result.andThen, sliced]
/-- A list's length is no more than its room. -/
def CapOk (v : Value) : Prop := ∀ a n c, v = .slice a n c → n ≤ c
theorem capOk_own {w : World} {B : Nat} {e : TypeId} {sz : Nat} {v : Value} {n : Nat} {xs : List Value} (h : w.ownsRow B e sz v n xs) : CapOk v := by
  intro a n' c hv
  rcases h.2 with ⟨e, h0⟩ | ⟨g, cap, cur, e, _, _, hle, _⟩
  · rw [e] at hv; cases hv; exact Nat.le_refl _
  · rw [e] at hv; cases hv; exact hle
/-- l3Rows, of an array that is right and of rank 1 and above. -/
theorem l3rows_cap {n0 : Int} {t d : List Int} {w : World} {v : Value} (h : ArrI w v (n0 :: t) d) (ho : arrOk (n0 :: t) d = true) :
    Calls Tryd.prog 62 #[v] w fun e w' => ∃ v', e = .returned v' ∧ Arrs w.heap.size w'.heap.size w' v' (rowsF (n0 :: t) d) ∧ Below w.heap.size w w' ∧ CapOk v' := by
  obtain ⟨a, c, b, e, rfl, h1, h2, g1, g2⟩ := h
  obtain ⟨b1, o1, rfl, hb1, c0⟩ := h1.at (k := 0) (by simp)
  have hh := head_bd ho
  simp only [List.getD_cons_zero] at hh c0
  rw [Nat.add_zero] at c0
  have k1 := (sizeV_ok (arrOk_shape ho)).1
  simp at k1
  have hL : (rowsF (n0 :: t) d).length = 2 * n0.toNat := by rw [rowsF_length, if_pos ⟨ho, by simp⟩]; simp
  have ht : Ints w (some ⟨b1, o1 + 1, none⟩) t := by
    rcases h1 with h1 | ⟨b', off', e', hb', hc'⟩
    · cases h1
    · cases e'
      refine .inr ⟨b1, o1 + 1, rfl, hb', fun k hk => ?_⟩
      have q := hc' (k + 1) (by simp; omega)
      rw [show o1 + (k + 1) = o1 + 1 + k by omega] at q
      simpa using q
  have key : ∀ (tl : Option Addr) (ct : Nat), Ints w tl t → (∀ W, (Instr.slice 22 (.slice (some ⟨b1, o1, none⟩) (t.length + 1) c) (some (.int .i64 1)) none none).run Tryd.prog W = .ok (.slice tl t.length ct) W) →
      Calls Tryd.prog 62 #[.agg #[.slice (some ⟨b1, o1, none⟩) (t.length + 1) c, .slice b d.length e]] w fun e w' => ∃ v', e = .returned v' ∧ Arrs w.heap.size w'.heap.size w' v' (rowsF (n0 :: t) d) ∧ Below w.heap.size w w' ∧ CapOk v' := by
    intro tl ct hi hsl
    refine (l3_walk n0 t d (if 0 < n0 then (sizeV t).toNat else 0) b1 o1 c e ct tl b w hh.1 hh.2 (fun hp => ?_) (fun hp => by rw [if_neg hp]; rfl) hb1 c0 hi (by omega) (rowsF (n0 :: t) d) hsl (fun k hk => ?_)).mono ?_
    · have := tail_size ho hp
      rw [if_pos hp]; omega
    · have hp : 0 < n0 := by omega
      obtain ⟨p0, p1, p2⟩ := tail_size ho hp
      rw [if_pos hp]
      obtain ⟨N, hN⟩ : ∃ N : Nat, sizeV t = N := ⟨(sizeV t).toNat, by omega⟩
      rw [hN] at p1 ⊢
      rw [Int.toNat_natCast]
      have hM : k * N + N ≤ d.length := by
        have q1 : ((k : Int) + 1) * N ≤ n0 * N := Int.mul_le_mul_of_nonneg_right (by omega) (by omega)
        rw [p1, Int.add_mul, Int.one_mul] at q1
        have q2 : ((k * N : Nat) : Int) = (k : Int) * N := by simp
        omega
      have hdl := arrOk_len ho
      have hat := flat2_at n0.toNat k (fun _ => t) (fun i => (d.drop (i * N)).take N) (by omega)
      have hR : rowsF (n0 :: t) d = (List.range n0.toNat).flatMap (fun i => [t, (d.drop (i * N)).take N]) := by
        unfold rowsF
        rw [if_pos ⟨ho, by simp⟩]
        simp [hN]
      rw [hR]
      refine ⟨hat.1, k * N, k * N + N, ?_⟩
      by_cases h0 : N = 0
      · subst h0
        refine ⟨b, e, [], by rw [hat.2]; simp, by simp, by simp, by omega, by simp, .inl rfl, fun W => ?_⟩
        simpa using slice_none W b d.length e
      · have hd0 : 0 < d.length := by omega
        obtain ⟨b2, o2, rfl, hb2, _⟩ := h2.at hd0
        have hlen : ((d.drop (k * N)).take N).length = N := by simp; omega
        refine ⟨some ⟨b2, o2 + k * N, none⟩, e - k * N, (d.drop (k * N)).take N, hat.2, by simp, by simp, by omega, by omega, ints_cut h2 hM, fun W => ?_⟩
        rw [hlen]
        have q := slice_cut W b2 o2 d.length e (k * N) N (by omega) (by omega)
        simpa using q
    · rintro r w' ⟨v', rfl, xs, W0, hR, hB⟩
      refine ⟨v', rfl, (hR.done hL).mono (by omega) (Nat.le_refl _), hB.trans (hR.below.mono (by omega)), capOk_own hR.own⟩
  by_cases hc : c = 1
  · subst hc
    obtain rfl : t = [] := List.eq_nil_of_length_eq_zero (by have q : t.length + 1 ≤ 1 := g1; omega)
    exact key (some ⟨b1, o1, none⟩) 0 (.inl rfl) (fun W => slice_one W b1 o1)
  · exact key (some ⟨b1, o1 + 1, none⟩) (c - 1) ht (fun W => slice_tail W b1 o1 t.length c (by have q : t.length + 1 ≤ c := g1; omega))
theorem l3rows_spec {n0 : Int} {t d : List Int} {w : World} {v : Value} (h : ArrI w v (n0 :: t) d) (ho : arrOk (n0 :: t) d = true) :
    Calls Tryd.prog 62 #[v] w fun e w' => ∃ v', e = .returned v' ∧ Arrs w.heap.size w'.heap.size w' v' (rowsF (n0 :: t) d) ∧ Below w.heap.size w w' := by
  refine (l3rows_cap h ho).mono ?_
  rintro e w' ⟨v', rfl, h1, h2, _⟩
  exact ⟨v', rfl, h1, h2⟩
theorem arrs_none (B C : Nat) (w : World) (a : Option Addr) (c : Nat) : Arrs B C w (.slice a 0 c) [] := ⟨a, 0, c, rfl, rfl, .inl rfl⟩
end Go.Proofs.YtcaidhmolnnikaaDoor
