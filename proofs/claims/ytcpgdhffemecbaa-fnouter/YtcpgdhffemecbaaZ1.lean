/-
  Several walks, one behind the other: SpecRows2, OuterF, SpecIndex, Extent, ExtIdx, ImplShape0, ImplPlace, ImplShape, CutI, ImplArr1, ImplArr2, ImplArr3, ImplMake1, ImplMake3, MakeP, ImplMake5, LookC, CopyL, ImplCopy1, Ones, Twos, Two, ImplEach0, ImplEach1, ImplEach2, ImplMap, ImplAlike, ImplSame, ImplFit.
-/
import Derived.Test.YtcpgdhffemecbaaSpecRows
import Derived.Test.YtcpgdhffemecbaaOuterN
import Derived.Test.YtcpgdhffemecbaaEachF2
import Derived.Test.YtcpgdhffemecbaaFlipM
import Derived.Test.YtcpgdhffemecbaaSpecPlace
import Derived.LoopN
import Derived.Test.YtcpgdhffemecbaaOwn
import Derived.Test.YtcpgdhffemecbaaShapeP
import Derived.Laws.CopyOwn
import Derived.Laws.StructEq
import Derived.Test.YtcpgdhffemecbaaMakeM
import Derived.Test.YtcpgdhffemecbaaLaw3
import Derived.Test.YtcpgdhffemecbaaEachP
import Derived.Test.YtcpgdhffemecbaaAppend
import Derived.Test.YtcpgdhffemecbaaArrM
import Derived.Test.YtcpgdhffemecbaaArr
import Derived.Test.YtcpgdhffemecbaaNumOk
import Derived.Test.YtcpgdhffemecbaaSpecArr2
import Derived.Test.YtcpgdhffemecbaaArrs
import Derived.Shelf.Abstract
import Derived.Test.YtcpgdhffemecbaaGrow
import Derived.Test.YtcpgdhffemecbaaSmall
import Derived.Laws.Tables
import Derived.DeepKeys4
import Derived.WideKeyEntry
import Derived.RegionTactic
import Derived.ChangeAlike
import Derived.Test.YtcpgdhffemecbaaEachM
namespace Go.Proofs.Ytcpgdhffemecbaa
open Go.RowKit
set_option linter.unusedVariables false
set_option linter.unusedSimpArgs false
theorem foldl_mul (l : List Int) (a : Int) : l.foldl (· * ·) a = a * l.foldl (· * ·) 1 := by
  induction l generalizing a with
  | nil => simp
  | cons x l ih => rw [List.foldl_cons, List.foldl_cons, ih (a * x), ih (1 * x), Int.one_mul, Int.mul_assoc]
theorem prodV_cons (x : Int) (l : List Int) : prodV (x :: l) = x * prodV l := by
  unfold prodV
  rw [List.foldl_cons, foldl_mul, Int.one_mul]
theorem tail_size {n0 : Int} {t d : List Int} (h : arrOk (n0 :: t) d = true) (hp : 0 < n0) : 0 ≤ sizeV t ∧ n0 * sizeV t = d.length ∧ sizeV t ≤ 300 := by
  obtain ⟨k1, k2, k3, k4⟩ := sizeV_ok (arrOk_shape h)
  have hz := arrOk_size h
  rw [prodV_cons] at k3 k4
  simp only [List.all_cons, Bool.and_eq_true] at k2
  have p0 := (prodV_bd t k2.2).1
  have p1 : 1 * prodV t ≤ n0 * prodV t := Int.mul_le_mul_of_nonneg_right (by omega) p0
  rw [Int.one_mul] at p1
  have e : sizeV t = prodV t := by
    unfold sizeV
    rw [if_neg (by simp at k1; omega), if_pos k2.2, if_neg (by omega)]
  rw [e]
  exact ⟨p0, by rw [← k4, hz], by omega⟩
theorem flat2_at (n k : Nat) (f g : Nat → List Int) (hk : k < n) : ((List.range n).flatMap (fun i => [f i, g i])).getD (2 * k) [] = f k ∧ ((List.range n).flatMap (fun i => [f i, g i])).getD (2 * k + 1) [] = g k := by
  induction n with
  | zero => omega
  | succ n ih =>
    rw [List.range_succ, List.flatMap_append]
    have hl := flat2_length n (fun i => [f i, g i]) (fun i => rfl)
    rw [getD_app, getD_app, hl]
    by_cases e : k < n
    · rw [if_pos (by omega), if_pos (by omega)]
      exact ih e
    · obtain rfl : k = n := by omega
      rw [if_neg (by omega), if_neg (by omega)]
      rw [show 2 * k - 2 * k = 0 by omega, show 2 * k + 1 - 2 * k = 1 by omega]
      simp
theorem slice_none (W : World) (b : Option Addr) (n e : Nat) : (Instr.slice 24 (.slice b n e) (some (.int .i64 ((0 : Nat) : Int))) (some (.int .i64 ((0 : Nat) : Int))) none).run Try.prog W = .ok (.slice b 0 e) W := by
  have hs : (sizeOf 3).run Try.prog W = .ok 1 W := by kernel_rfl
  have he : Try.prog.elem 24 = 3 := by kernel_rfl
  rw [run_slice_lh (P := Try.prog) (w := W) 24 b n e (by rw [he]; exact Try.underlying24) .i64 .i64 ((0 : Nat) : Int) ((0 : Nat) : Int) (by omega) (by omega) (by omega), he, hs]
  cases b <;> simp [Result.andThen, sliced, Addr.add]
theorem slice_one (W : World) (b o : Nat) : (Instr.slice 24 (.slice (some ⟨b, o, none⟩) (0 + 1) 1) (some (.int .i64 1)) none none).run Try.prog W = .ok (.slice (some ⟨b, o, none⟩) 0 0) W := by
  have hs : (sizeOf 3).run Try.prog W = .ok 1 W := by kernel_rfl
  have he : Try.prog.elem 24 = 3 := by kernel_rfl
  rw [run_slice_l (P := Try.prog) (w := W) 24 (some ⟨b, o, none⟩) (0 + 1) 1 (by rw [he]; exact Try.underlying24) .i64 1 (by decide) (by omega), he, hs]
  simp [Result.andThen, sliced]
/-- A list's length is no more than its room. -/
def CapOk (v : Value) : Prop := ∀ a n c, v = .slice a n c → n ≤ c
theorem capOk_own {w : World} {B : Nat} {e : TypeId} {sz : Nat} {v : Value} {n : Nat} {xs : List Value} (h : w.ownsRow B e sz v n xs) : CapOk v := by
  intro a n' c hv
  rcases h.2 with ⟨e, h0⟩ | ⟨g, cap, cur, e, _, _, hle, _⟩
  · rw [e] at hv; cases hv; exact Nat.le_refl _
  · rw [e] at hv; cases hv; exact hle
/-- l3Rows, of an array that is right and of rank 1 and above. -/
theorem l3rows_cap {n0 : Int} {t d : List Int} {w : World} {v : Value} (h : ArrI w v (n0 :: t) d) (ho : arrOk (n0 :: t) d = true) :
    Calls Try.prog 39 #[v] w fun e w' => ∃ v', e = .returned v' ∧ Arrs w.heap.size w'.heap.size w' v' (rowsF (n0 :: t) d) ∧ Below w.heap.size w w' ∧ CapOk v' := by
  obtain ⟨a, c, b, e, rfl, h1, h2, g1, g2⟩ := h
  obtain ⟨b1, o1, rfl, hb1, c0⟩ := h1.at (k := 0) (by simp)
  have hh := head_bd ho
  simp only [List.getD_cons_zero] at hh c0
  rw [Nat.add_zero] at c0
  have k1 := (sizeV_ok (arrOk_shape ho)).1
  simp at k1
  have hL : (rowsF (n0 :: t) d).length = 2 * n0.toNat := by rw [rowsF_length, if_pos ⟨ho, by simp⟩]; simp
  have ht : Ints w (some ⟨b1, o1 + 1, none⟩) t := by
    rcases h1 with h1 | ⟨b', off', e', hb', hc'⟩
    · cases h1
    · cases e'
      refine .inr ⟨b1, o1 + 1, rfl, hb', fun k hk => ?_⟩
      have q := hc' (k + 1) (by simp; omega)
      rw [show o1 + (k + 1) = o1 + 1 + k by omega] at q
      simpa using q
  have key : ∀ (tl : Option Addr) (ct : Nat), Ints w tl t → (∀ W, (Instr.slice 24 (.slice (some ⟨b1, o1, none⟩) (t.length + 1) c) (some (.int .i64 1)) none none).run Try.prog W = .ok (.slice tl t.length ct) W) →
      Calls Try.prog 39 #[.agg #[.slice (some ⟨b1, o1, none⟩) (t.length + 1) c, .slice b d.length e]] w fun e w' => ∃ v', e = .returned v' ∧ Arrs w.heap.size w'.heap.size w' v' (rowsF (n0 :: t) d) ∧ Below w.heap.size w w' ∧ CapOk v' := by
    intro tl ct hi hsl
    refine (l3_walk n0 t d (if 0 < n0 then (sizeV t).toNat else 0) b1 o1 c e ct tl b w hh.1 hh.2 (fun hp => ?_) (fun hp => by rw [if_neg hp]; rfl) hb1 c0 hi (by omega) (rowsF (n0 :: t) d) hsl (fun k hk => ?_)).mono ?_
    · have := tail_size ho hp
      rw [if_pos hp]; omega
    · have hp : 0 < n0 := by omega
      obtain ⟨p0, p1, p2⟩ := tail_size ho hp
      rw [if_pos hp]
      obtain ⟨N, hN⟩ : ∃ N : Nat, sizeV t = N := ⟨(sizeV t).toNat, by omega⟩
      rw [hN] at p1 ⊢
      rw [Int.toNat_natCast]
      have hM : k * N + N ≤ d.length := by
        have q1 : ((k : Int) + 1) * N ≤ n0 * N := Int.mul_le_mul_of_nonneg_right (by omega) (by omega)
        rw [p1, Int.add_mul, Int.one_mul] at q1
        have q2 : ((k * N : Nat) : Int) = (k : Int) * N := by simp
        omega
      have hdl := arrOk_len ho
      have hat := flat2_at n0.toNat k (fun _ => t) (fun i => (d.drop (i * N)).take N) (by omega)
      have hR : rowsF (n0 :: t) d = (List.range n0.toNat).flatMap (fun i => [t, (d.drop (i * N)).take N]) := by
        unfold rowsF
        rw [if_pos ⟨ho, by simp⟩]
        simp [hN]
      rw [hR]
      refine ⟨hat.1, k * N, k * N + N, ?_⟩
      by_cases h0 : N = 0
      · subst h0
        refine ⟨b, e, [], by rw [hat.2]; simp, by simp, by simp, by omega, by simp, .inl rfl, fun W => ?_⟩
        simpa using slice_none W b d.length e
      · have hd0 : 0 < d.length := by omega
        obtain ⟨b2, o2, rfl, hb2, _⟩ := h2.at hd0
        have hlen : ((d.drop (k * N)).take N).length = N := by simp; omega
        refine ⟨some ⟨b2, o2 + k * N, none⟩, e - k * N, (d.drop (k * N)).take N, hat.2, by simp, by simp, by omega, by omega, ints_cut h2 hM, fun W => ?_⟩
        rw [hlen]
        have q := slice_cut W b2 o2 d.length e (k * N) N (by omega) (by omega)
        simpa using q
    · rintro r w' ⟨v', rfl, xs, W0, hR, hB⟩
      refine ⟨v', rfl, (hR.done hL).mono (by omega) (Nat.le_refl _), hB.trans (hR.below.mono (by omega)), capOk_own hR.own⟩
  by_cases hc : c = 1
  · subst hc
    obtain rfl : t = [] := List.eq_nil_of_length_eq_zero (by have q : t.length + 1 ≤ 1 := g1; omega)
    exact key (some ⟨b1, o1, none⟩) 0 (.inl rfl) (fun W => slice_one W b1 o1)
  · exact key (some ⟨b1, o1 + 1, none⟩) (c - 1) ht (fun W => slice_tail W b1 o1 t.length c (by have q : t.length + 1 ≤ c := g1; omega))
theorem l3rows_spec {n0 : Int} {t d : List Int} {w : World} {v : Value} (h : ArrI w v (n0 :: t) d) (ho : arrOk (n0 :: t) d = true) :
    Calls Try.prog 39 #[v] w fun e w' => ∃ v', e = .returned v' ∧ Arrs w.heap.size w'.heap.size w' v' (rowsF (n0 :: t) d) ∧ Below w.heap.size w w' := by
  refine (l3rows_cap h ho).mono ?_
  rintro e w' ⟨v', rfl, h1, h2, _⟩
  exact ⟨v', rfl, h1, h2⟩
theorem arrs_none (B C : Nat) (w : World) (a : Option Addr) (c : Nat) : Arrs B C w (.slice a 0 c) [] := ⟨a, 0, c, rfl, rfl, .inl rfl⟩
end Go.Proofs.Ytcpgdhffemecbaa
namespace Go.Proofs.Ytcpgdhffemecbaa
set_option linter.unusedVariables false
set_option linter.unusedSimpArgs false
theorem outer_code {g : Int} {s d t e : List Int} (h : outerC g s d t e = 0) : (arrOk s d = true ∧ arrOk t e = true ∧ sign2 g = true) ∧ s.length + t.length ≤ 3 ∧ 0 ≤ sizeV (s ++ t) ∧ outC g d e d.length = 0 := by
  unfold outerC at h
  by_cases ho : arrOk s d = true ∧ arrOk t e = true ∧ sign2 g = true
  · rw [if_pos ho] at h
    by_cases h3 : 3 < s.length + t.length
    · rw [if_pos h3] at h; cases h
    · rw [if_neg h3] at h
      by_cases hz : sizeV (s ++ t) < 0
      · rw [if_pos hz] at h; cases h
      · rw [if_neg hz] at h
        exact ⟨ho, by omega, by omega, h⟩
  · rw [if_neg ho] at h; cases h
theorem out_at {g : Int} {d e : List Int} (n : Nat) {i k : Nat} (hi : i < n) (hk : k < e.length) : (outD g d e n).getD (i * e.length + k) 0 = (twoV g (d.getD i 0) (e.getD k 0)).1 := by
  induction n with
  | zero => omega
  | succ n ih =>
    rw [outD_succ, List.getD_eq_getElem?_getD]
    have hl := outD_len g d e n
    by_cases h : i < n
    · have hle : i * e.length + e.length ≤ n * e.length := by
        have : (i + 1) * e.length ≤ n * e.length := Nat.mul_le_mul_right _ h
        rw [Nat.succ_mul] at this; exact this
      rw [List.getElem?_append_left (by omega), ← List.getD_eq_getElem?_getD]
      exact ih h
    · obtain rfl : i = n := by omega
      rw [List.getElem?_append_right (by omega), hl, show i * e.length + k - i * e.length = k by omega]
      simp [spreadD, hk]
theorem out_zero {g : Int} {d e : List Int} (h : outC g d e d.length = 0) {i k : Nat} (hi : i < d.length) (hk : k < e.length) : (twoV g (d.getD i 0) (e.getD k 0)).2 = 0 := firstC_all (firstC_all h i hi) k hk
theorem out_mem {g : Int} {d e : List Int} {x : Int} {n : Nat} (h : x ∈ outD g d e n) : ∃ i k, i < n ∧ k < e.length ∧ x = (twoV g (d.getD i 0) (e.getD k 0)).1 := by
  unfold outD at h
  obtain ⟨i, hi, hx⟩ := List.mem_flatMap.1 h
  unfold spreadD at hx
  obtain ⟨k, hk, rfl⟩ := List.mem_map.1 hx
  exact ⟨i, k, List.mem_range.1 hi, List.mem_range.1 hk, rfl⟩
theorem prodV_app (s t : List Int) : prodV (s ++ t) = prodV s * prodV t := by
  induction s with
  | nil => simp [prodV]
  | cons x s ih => rw [List.cons_append, prodV_cons, prodV_cons, ih, Int.mul_assoc]
theorem outer_ok {g : Int} {s d t e : List Int} (h : outerC g s d t e = 0) : arrOk (s ++ t) (outD g d e d.length) = true := by
  obtain ⟨⟨h1, h2, h3⟩, h4, h5, h6⟩ := outer_code h
  have z1 := arrOk_size h1
  have z2 := arrOk_size h2
  have e1 := (sizeV_ok (arrOk_shape h1)).2.2.2
  have e2 := (sizeV_ok (arrOk_shape h2)).2.2.2
  have e3 := (sizeV_ok h5).2.2.2
  simp only [arrOk, Bool.and_eq_true, decide_eq_true_eq, List.all_eq_true]
  refine ⟨?_, fun x hx => ?_⟩
  · rw [e3, prodV_app, ← e1, ← e2, z1, z2, outD_len]; simp
  · obtain ⟨i, k, hi, hk, rfl⟩ := out_mem hx
    exact two_ok (out_zero h6 hi hk)
/-- The signs that do not hang on the side. -/
def sidesB (g : Int) : Bool := g == 43 || g == 42 || g == 38 || g == 94 || g == 61
theorem two_sides {g a b : Int} (h : sidesB g = true) : twoV g a b = twoV g b a := by
  have hx : twoX g a b = twoX g b a := by
    unfold sidesB at h
    simp at h
    rcases h with (((rfl | rfl) | rfl) | rfl) | rfl
    · simp [twoX, Int.add_comm]
    · simp [twoX, Int.mul_comm]
    · simp [twoX, mn]; split <;> split <;> omega
    · simp [twoX, mx]; split <;> split <;> omega
    · simp [twoX, bit]; by_cases e : a = b
      · subst e; rfl
      · have : ¬ b = a := fun q => e q.symm
        simp [e, this]
  have hc : ∀ x, twoC g x = 0 := fun x => by
    unfold sidesB at h
    simp at h
    unfold twoC
    rw [if_neg (by rintro ⟨rfl, _⟩; omega)]
  unfold twoV
  rw [hc, hc, if_pos rfl, if_pos rfl, hx]
  by_cases q : ok a = false ∨ ok b = false ∨ sign2 g = false
  · rw [if_pos q, if_pos (by rcases q with q | q | q; exact .inr (.inl q); exact .inl q; exact .inr (.inr q))]
  · rw [if_neg q, if_neg (by rintro (k | k | k); exact q (.inr (.inl k)); exact q (.inl k); exact q (.inr (.inr k)))]
theorem vec_len {m : Int} {d : List Int} (h : arrOk [m] d = true) : m = (d.length : Int) := by
  have z := arrOk_size h
  rw [(sizeV_ok (arrOk_shape h)).2.2.2, prod1] at z
  exact z
theorem firstC_zero {f : Nat → Int} {n : Nat} (h : ∀ i, i < n → f i = 0) : firstC f n = 0 := by
  induction n with
  | zero => rfl
  | succ n ih => exact firstC_go (ih (fun i hi => h i (by omega))) (h n (by omega))
theorem outer_flip {g m n : Int} {d e : List Int} (h : outerC g [m] d [n] e = 0) (hs : sidesB g = true) :
    outerR g [n] e [m] d = (0, [n, m], outD g e d e.length) ∧ flipR [m, n] (outD g d e d.length) = (0, [n, m], outD g e d e.length) := by
  obtain ⟨⟨h1, h2, h3⟩, h4, h5, h6⟩ := outer_code h
  have ho := outer_ok h
  have em := vec_len h1
  have en := vec_len h2
  subst em en
  have hz : sizeV ([(e.length : Int)] ++ [(d.length : Int)]) = sizeV ([(d.length : Int)] ++ [(e.length : Int)]) := size_rev (s := [(d.length : Int), (e.length : Int)]) h5
  have hc : outC g e d e.length = 0 := firstC_zero fun k hk => firstC_zero fun i hi => by rw [two_sides hs]; exact out_zero h6 hi hk
  refine ⟨?_, ?_⟩
  · rw [outerR_told h2 h1 h3, if_neg (by simp), if_neg (by rw [hz]; omega), hc]; rfl
  · have ho' : arrOk [(d.length : Int), (e.length : Int)] (outD g d e d.length) = true := ho
    unfold flipR
    rw [show okC [(d.length : Int), (e.length : Int)] (outD g d e d.length) = 0 from by unfold okC; rw [if_pos ho']]
    have hD : flipD [(d.length : Int), (e.length : Int)] (outD g d e d.length) = outD g e d e.length := by
      apply List.ext_getElem
      · simp [flipD, outD_len, Nat.mul_comm]
      · intro p q1 q2
        have hp : p < e.length * d.length := by rw [outD_len] at q2; exact q2
        have hdl : 0 < d.length := by
          rcases Nat.eq_zero_or_pos d.length with q | q
          · rw [q] at hp; simp at hp
          · exact q
        have hpe : p / d.length < e.length := Nat.div_lt_of_lt_mul (by rw [Nat.mul_comm]; exact hp)
        have hpd : p % d.length < d.length := Nat.mod_lt _ hdl
        have hpp : p / d.length * d.length + p % d.length = p := by rw [Nat.mul_comm]; exact Nat.div_add_mod p d.length
        have hsz : sizeV [(e.length : Int), (d.length : Int)] = ((e.length * d.length : Nat) : Int) := by
          have q := (sizeV_ok (show 0 ≤ sizeV [(e.length : Int), (d.length : Int)] from by rw [show sizeV [(e.length : Int), (d.length : Int)] = _ from hz]; exact h5)).2.2.2
          rw [q, prod2]; simp
        have hidx : indexV [(e.length : Int), (d.length : Int)] (p : Int) = [((p / d.length : Nat) : Int), ((p % d.length : Nat) : Int)] := by
          unfold indexV
          rw [if_neg (by rw [hsz]; omega)]
          show [(p : Int) / (d.length : Int) % (e.length : Int), (p : Int) % (d.length : Int)] = _
          rw [show (p : Int) / (d.length : Int) = ((p / d.length : Nat) : Int) by simp, show (p : Int) % (d.length : Int) = ((p % d.length : Nat) : Int) by simp, Int.emod_eq_of_lt (Int.natCast_nonneg _) (Int.ofNat_lt.2 hpe)]
        have hpl : placeV [(d.length : Int), (e.length : Int)] [((p % d.length : Nat) : Int), ((p / d.length : Nat) : Int)] = ((p % d.length * e.length + p / d.length : Nat) : Int) := by
          have f1 : ((p % d.length : Nat) : Int) ≤ (d.length : Int) - 1 := by have := Int.ofNat_lt.2 hpd; omega
          have f2 : ((p / d.length : Nat) : Int) ≤ (e.length : Int) - 1 := by have := Int.ofNat_lt.2 hpe; omega
          have hin : inOk ([(d.length : Int), (e.length : Int)].zip [((p % d.length : Nat) : Int), ((p / d.length : Nat) : Int)]) = true := by
            simp only [inOk, List.zip_cons_cons, List.zip_nil_right, List.all_cons, List.all_nil, Bool.and_true, Bool.and_eq_true, decide_eq_true_eq]
            exact ⟨⟨Int.natCast_nonneg _, f1⟩, ⟨Int.natCast_nonneg _, f2⟩⟩
          unfold placeV
          rw [if_neg (by rw [show sizeV [(d.length : Int), (e.length : Int)] = sizeV ([(d.length : Int)] ++ [(e.length : Int)]) from rfl]; simp at h5 ⊢; omega), if_pos hin]
          simp [hor]
        have l1 : (flipD [(d.length : Int), (e.length : Int)] (outD g d e d.length))[p] = (outD g d e d.length).getD (p % d.length * e.length + p / d.length) 0 := by
          simp only [flipD, List.getElem_map, List.getElem_range]
          rw [show [(d.length : Int), (e.length : Int)].reverse = [(e.length : Int), (d.length : Int)] from rfl, hidx, show [((p / d.length : Nat) : Int), ((p % d.length : Nat) : Int)].reverse = [((p % d.length : Nat) : Int), ((p / d.length : Nat) : Int)] from rfl, hpl, Int.toNat_natCast]
        have l2 : (outD g e d e.length)[p] = (outD g e d e.length).getD (p / d.length * d.length + p % d.length) 0 := by rw [hpp]; simp only [List.getD, List.getElem?_eq_getElem q2, Option.getD_some]
        rw [l1, l2, out_at _ hpd hpe, out_at _ hpe hpd, two_sides hs]
    rw [hD]; rfl
end Go.Proofs.Ytcpgdhffemecbaa
namespace Go.Proofs.Ytcpgdhffemecbaa
open Go.RowKit
set_option linter.unusedVariables false
end Go.Proofs.Ytcpgdhffemecbaa
namespace Go.Proofs.Ytcpgdhffemecbaa
open Go.RowKit
set_option linter.unusedVariables false
/-- A shape by value: its rank and its numbers, noughts behind them. -/
def extC (l : List Int) : Array Value := #[.int .i64 l.length, .int .i64 (l.getD 0 0), .int .i64 (l.getD 1 0), .int .i64 (l.getD 2 0)]
/-- An index by value. -/
def axC (l : List Int) : Array Value := #[.int .i64 (l.getD 0 0), .int .i64 (l.getD 1 0), .int .i64 (l.getD 2 0)]
set_option maxRecDepth 20000 in
set_option maxHeartbeats 2000000 in
theorem size_0_ext (w : World)  :
    Calls Try.prog 109 #[.agg #[.int .i64 0, .int .i64 0, .int .i64 0, .int .i64 0]] w fun e w' => e = .returned (.int .i64 1) ∧ w' = w.alloc (.cells #[.int .i64 0, .int .i64 0, .int .i64 0, .int .i64 0] 104) := by
  go_enter Try.func109, Try.ntmps109
  go_wp2
  refine wp_loop_rounds 1 ?_
  rw [rounds_succ]
  go_wp2
  go_ret
  exact ⟨rfl, rfl⟩
set_option maxRecDepth 20000 in
set_option maxHeartbeats 2000000 in
theorem size_1_ext (x : Int) (w : World) (x0 : 0 ≤ x) (x1 : x ≤ 300) :
    Calls Try.prog 109 #[.agg #[.int .i64 1, .int .i64 x, .int .i64 0, .int .i64 0]] w fun e w' => e = .returned (.int .i64 x) ∧ w' = w.alloc (.cells #[.int .i64 1, .int .i64 x, .int .i64 0, .int .i64 0] 104) := by
  go_enter Try.func109, Try.ntmps109
  go_wp2
  refine wp_loop_rounds 2 ?_
  rw [rounds_succ]
  go_wp2
  rw [rounds_succ]
  go_wp2
  go_ret
  exact ⟨rfl, rfl⟩
set_option maxRecDepth 20000 in
set_option maxHeartbeats 2000000 in
theorem size_2_ext (x y : Int) (w : World) (x0 : 0 ≤ x) (x1 : x ≤ 300) (y0 : 0 ≤ y) (y1 : y ≤ 300) :
    Calls Try.prog 109 #[.agg #[.int .i64 2, .int .i64 x, .int .i64 y, .int .i64 0]] w fun e w' => e = .returned (.int .i64 (x * y)) ∧ w' = w.alloc (.cells #[.int .i64 2, .int .i64 x, .int .i64 y, .int .i64 0] 104) := by
  have h2 : 0 ≤ x * y := Int.mul_nonneg x0 y0
  have h3 : x * y ≤ 90000 := Int.le_trans (Int.mul_le_mul x1 y1 y0 (by omega)) (by decide)
  go_enter Try.func109, Try.ntmps109
  go_wp2
  refine wp_loop_rounds 3 ?_
  rw [rounds_succ]
  go_wp2
  rw [rounds_succ]
  go_wp2
  rw [rounds_succ]
  go_wp2
  go_ret
  exact ⟨rfl, rfl⟩
set_option maxRecDepth 20000 in
set_option maxHeartbeats 2000000 in
theorem size_3_ext (x y z : Int) (w : World) (x0 : 0 ≤ x) (x1 : x ≤ 300) (y0 : 0 ≤ y) (y1 : y ≤ 300) (z0 : 0 ≤ z) (z1 : z ≤ 300) :
    Calls Try.prog 109 #[.agg #[.int .i64 3, .int .i64 x, .int .i64 y, .int .i64 z]] w fun e w' => e = .returned (.int .i64 (x * y * z)) ∧ w' = w.alloc (.cells #[.int .i64 3, .int .i64 x, .int .i64 y, .int .i64 z] 104) := by
  have h2 : 0 ≤ x * y := Int.mul_nonneg x0 y0
  have h3 : x * y ≤ 90000 := Int.le_trans (Int.mul_le_mul x1 y1 y0 (by omega)) (by decide)
  have h4 : 0 ≤ x * y * z := Int.mul_nonneg h2 z0
  have h5 : x * y * z ≤ 27000000 := Int.le_trans (Int.mul_le_mul h3 z1 z0 (by omega)) (by decide)
  go_enter Try.func109, Try.ntmps109
  go_wp2
  refine wp_loop_rounds 4 ?_
  rw [rounds_succ]
  go_wp2
  rw [rounds_succ]
  go_wp2
  rw [rounds_succ]
  go_wp2
  rw [rounds_succ]
  go_wp2
  go_ret
  exact ⟨rfl, rfl⟩
set_option maxRecDepth 20000 in
set_option maxHeartbeats 2000000 in
theorem ext_0_ok (a : Option Addr) (c : Nat) (w : World) (h1 : Ints w a [])  :
    Calls Try.prog 92 #[.slice a 0 c] w fun e w' => e = .returned (.tuple #[.agg #[.int .i64 0, .int .i64 0, .int .i64 0, .int .i64 0], .bool true]) ∧ Below w.heap.size w w' := by
  go_enter Try.func92, Try.ntmps92
  go_wp2
  refine wp_loop_rounds 1 ?_
  rw [rounds_succ]
  go_wp2_with (go_at_call 109; refine (size_0_ext  _ ).mono ?_; rintro e w' ⟨rfl, hw⟩; subst w')
  go_returns
  exact ⟨rfl, by first | exact bAlloc (bAlloc (bAlloc (Below.refl _ _) _) _) _ | exact bAlloc (bAlloc (Below.refl _ _) _) _ | exact bAlloc (Below.refl _ _) _⟩
set_option maxRecDepth 20000 in
set_option maxHeartbeats 2000000 in
theorem ext_1_neg0 (x : Int) (a : Option Addr) (c : Nat) (w : World) (h1 : Ints w a [x])  (hb : x < 0) :
    Calls Try.prog 92 #[.slice a 1 c] w fun e w' => e = .returned (.tuple #[.agg #[.int .i64 0, .int .i64 0, .int .i64 0, .int .i64 0], .bool false]) ∧ Below w.heap.size w w' := by
  rcases h1 with h0 | ⟨b, off, rfl, hb, hc⟩
  · cases h0
  have c0 : w.cell? ⟨b, off, none⟩ = some (.int .i64 x) := hc 0 (by simp)
  clear hc
  go_enter Try.func92, Try.ntmps92
  go_wp2
  refine wp_loop_rounds 1 ?_
  rw [rounds_succ]
  go_wp2
  go_returns
  exact ⟨rfl, by first | exact bAlloc (bAlloc (bAlloc (Below.refl _ _) _) _) _ | exact bAlloc (bAlloc (Below.refl _ _) _) _ | exact bAlloc (Below.refl _ _) _⟩
set_option maxRecDepth 20000 in
set_option maxHeartbeats 2000000 in
theorem ext_1_great0 (x : Int) (a : Option Addr) (c : Nat) (w : World) (h1 : Ints w a [x])  (hb0 : 0 ≤ x) (hb : 300 < x) :
    Calls Try.prog 92 #[.slice a 1 c] w fun e w' => e = .returned (.tuple #[.agg #[.int .i64 0, .int .i64 0, .int .i64 0, .int .i64 0], .bool false]) ∧ Below w.heap.size w w' := by
  rcases h1 with h0 | ⟨b, off, rfl, hb, hc⟩
  · cases h0
  have c0 : w.cell? ⟨b, off, none⟩ = some (.int .i64 x) := hc 0 (by simp)
  clear hc
  go_enter Try.func92, Try.ntmps92
  go_wp2
  refine wp_loop_rounds 1 ?_
  rw [rounds_succ]
  go_wp2
  go_returns
  exact ⟨rfl, by first | exact bAlloc (bAlloc (bAlloc (Below.refl _ _) _) _) _ | exact bAlloc (bAlloc (Below.refl _ _) _) _ | exact bAlloc (Below.refl _ _) _⟩
set_option maxRecDepth 20000 in
set_option maxHeartbeats 2000000 in
theorem ext_1_ok (x : Int) (a : Option Addr) (c : Nat) (w : World) (h1 : Ints w a [x]) (x0 : 0 ≤ x) (x1 : x ≤ 300) :
    Calls Try.prog 92 #[.slice a 1 c] w fun e w' => e = .returned (.tuple #[.agg #[.int .i64 1, .int .i64 x, .int .i64 0, .int .i64 0], .bool true]) ∧ Below w.heap.size w w' := by
  rcases h1 with h0 | ⟨b, off, rfl, hb, hc⟩
  · cases h0
  have c0 : w.cell? ⟨b, off, none⟩ = some (.int .i64 x) := hc 0 (by simp)
  clear hc
  go_enter Try.func92, Try.ntmps92
  go_wp2
  refine wp_loop_rounds 2 ?_
  rw [rounds_succ]
  go_wp2
  rw [rounds_succ]
  go_wp2_with (go_at_call 109; refine (size_1_ext x _ x0 x1).mono ?_; rintro e w' ⟨rfl, hw⟩; subst w')
  go_returns
  exact ⟨rfl, by first | exact bAlloc (bAlloc (bAlloc (Below.refl _ _) _) _) _ | exact bAlloc (bAlloc (Below.refl _ _) _) _ | exact bAlloc (Below.refl _ _) _⟩
set_option maxRecDepth 20000 in
set_option maxHeartbeats 2000000 in
theorem ext_2_neg0 (x y : Int) (a : Option Addr) (c : Nat) (w : World) (h1 : Ints w a [x, y])  (hb : x < 0) :
    Calls Try.prog 92 #[.slice a 2 c] w fun e w' => e = .returned (.tuple #[.agg #[.int .i64 0, .int .i64 0, .int .i64 0, .int .i64 0], .bool false]) ∧ Below w.heap.size w w' := by
  rcases h1 with h0 | ⟨b, off, rfl, hb, hc⟩
  · cases h0
  have c0 : w.cell? ⟨b, off, none⟩ = some (.int .i64 x) := hc 0 (by simp)
  have c1 : w.cell? ⟨b, off + 1, none⟩ = some (.int .i64 y) := hc 1 (by simp)
  clear hc
  go_enter Try.func92, Try.ntmps92
  go_wp2
  refine wp_loop_rounds 1 ?_
  rw [rounds_succ]
  go_wp2
  go_returns
  exact ⟨rfl, by first | exact bAlloc (bAlloc (bAlloc (Below.refl _ _) _) _) _ | exact bAlloc (bAlloc (Below.refl _ _) _) _ | exact bAlloc (Below.refl _ _) _⟩
set_option maxRecDepth 20000 in
set_option maxHeartbeats 2000000 in
theorem ext_2_great0 (x y : Int) (a : Option Addr) (c : Nat) (w : World) (h1 : Ints w a [x, y])  (hb0 : 0 ≤ x) (hb : 300 < x) :
    Calls Try.prog 92 #[.slice a 2 c] w fun e w' => e = .returned (.tuple #[.agg #[.int .i64 0, .int .i64 0, .int .i64 0, .int .i64 0], .bool false]) ∧ Below w.heap.size w w' := by
  rcases h1 with h0 | ⟨b, off, rfl, hb, hc⟩
  · cases h0
  have c0 : w.cell? ⟨b, off, none⟩ = some (.int .i64 x) := hc 0 (by simp)
  have c1 : w.cell? ⟨b, off + 1, none⟩ = some (.int .i64 y) := hc 1 (by simp)
  clear hc
  go_enter Try.func92, Try.ntmps92
  go_wp2
  refine wp_loop_rounds 1 ?_
  rw [rounds_succ]
  go_wp2
  go_returns
  exact ⟨rfl, by first | exact bAlloc (bAlloc (bAlloc (Below.refl _ _) _) _) _ | exact bAlloc (bAlloc (Below.refl _ _) _) _ | exact bAlloc (Below.refl _ _) _⟩
set_option maxRecDepth 20000 in
set_option maxHeartbeats 2000000 in
theorem ext_2_neg1 (x y : Int) (a : Option Addr) (c : Nat) (w : World) (h1 : Ints w a [x, y]) (x0 : 0 ≤ x) (x1 : x ≤ 300) (hb : y < 0) :
    Calls Try.prog 92 #[.slice a 2 c] w fun e w' => e = .returned (.tuple #[.agg #[.int .i64 0, .int .i64 0, .int .i64 0, .int .i64 0], .bool false]) ∧ Below w.heap.size w w' := by
  rcases h1 with h0 | ⟨b, off, rfl, hb, hc⟩
  · cases h0
  have c0 : w.cell? ⟨b, off, none⟩ = some (.int .i64 x) := hc 0 (by simp)
  have c1 : w.cell? ⟨b, off + 1, none⟩ = some (.int .i64 y) := hc 1 (by simp)
  clear hc
  go_enter Try.func92, Try.ntmps92
  go_wp2
  refine wp_loop_rounds 2 ?_
  rw [rounds_succ]
  go_wp2
  rw [rounds_succ]
  go_wp2
  go_returns
  exact ⟨rfl, by first | exact bAlloc (bAlloc (bAlloc (Below.refl _ _) _) _) _ | exact bAlloc (bAlloc (Below.refl _ _) _) _ | exact bAlloc (Below.refl _ _) _⟩
set_option maxRecDepth 20000 in
set_option maxHeartbeats 2000000 in
theorem ext_2_great1 (x y : Int) (a : Option Addr) (c : Nat) (w : World) (h1 : Ints w a [x, y]) (x0 : 0 ≤ x) (x1 : x ≤ 300) (hb0 : 0 ≤ y) (hb : 300 < y) :
    Calls Try.prog 92 #[.slice a 2 c] w fun e w' => e = .returned (.tuple #[.agg #[.int .i64 0, .int .i64 0, .int .i64 0, .int .i64 0], .bool false]) ∧ Below w.heap.size w w' := by
  rcases h1 with h0 | ⟨b, off, rfl, hb, hc⟩
  · cases h0
  have c0 : w.cell? ⟨b, off, none⟩ = some (.int .i64 x) := hc 0 (by simp)
  have c1 : w.cell? ⟨b, off + 1, none⟩ = some (.int .i64 y) := hc 1 (by simp)
  clear hc
  go_enter Try.func92, Try.ntmps92
  go_wp2
  refine wp_loop_rounds 2 ?_
  rw [rounds_succ]
  go_wp2
  rw [rounds_succ]
  go_wp2
  go_returns
  exact ⟨rfl, by first | exact bAlloc (bAlloc (bAlloc (Below.refl _ _) _) _) _ | exact bAlloc (bAlloc (Below.refl _ _) _) _ | exact bAlloc (Below.refl _ _) _⟩
set_option maxRecDepth 20000 in
set_option maxHeartbeats 2000000 in
theorem ext_2_ok (x y : Int) (a : Option Addr) (c : Nat) (w : World) (h1 : Ints w a [x, y]) (x0 : 0 ≤ x) (x1 : x ≤ 300) (y0 : 0 ≤ y) (y1 : y ≤ 300) (hp : x * y ≤ 300) :
    Calls Try.prog 92 #[.slice a 2 c] w fun e w' => e = .returned (.tuple #[.agg #[.int .i64 2, .int .i64 x, .int .i64 y, .int .i64 0], .bool true]) ∧ Below w.heap.size w w' := by
  have h2 : 0 ≤ x * y := Int.mul_nonneg x0 y0
  have h3 : x * y ≤ 90000 := Int.le_trans (Int.mul_le_mul x1 y1 y0 (by omega)) (by decide)
  rcases h1 with h0 | ⟨b, off, rfl, hb, hc⟩
  · cases h0
  have c0 : w.cell? ⟨b, off, none⟩ = some (.int .i64 x) := hc 0 (by simp)
  have c1 : w.cell? ⟨b, off + 1, none⟩ = some (.int .i64 y) := hc 1 (by simp)
  clear hc
  go_enter Try.func92, Try.ntmps92
  go_wp2
  refine wp_loop_rounds 3 ?_
  rw [rounds_succ]
  go_wp2
  rw [rounds_succ]
  go_wp2
  rw [rounds_succ]
  go_wp2_with (go_at_call 109; refine (size_2_ext x y _ x0 x1 y0 y1).mono ?_; rintro e w' ⟨rfl, hw⟩; subst w')
  go_returns
  exact ⟨rfl, by first | exact bAlloc (bAlloc (bAlloc (Below.refl _ _) _) _) _ | exact bAlloc (bAlloc (Below.refl _ _) _) _ | exact bAlloc (Below.refl _ _) _⟩
set_option maxRecDepth 20000 in
set_option maxHeartbeats 2000000 in
theorem ext_2_much (x y : Int) (a : Option Addr) (c : Nat) (w : World) (h1 : Ints w a [x, y]) (x0 : 0 ≤ x) (x1 : x ≤ 300) (y0 : 0 ≤ y) (y1 : y ≤ 300) (hp : 300 < x * y) :
    Calls Try.prog 92 #[.slice a 2 c] w fun e w' => e = .returned (.tuple #[.agg #[.int .i64 0, .int .i64 0, .int .i64 0, .int .i64 0], .bool false]) ∧ Below w.heap.size w w' := by
  have h2 : 0 ≤ x * y := Int.mul_nonneg x0 y0
  have h3 : x * y ≤ 90000 := Int.le_trans (Int.mul_le_mul x1 y1 y0 (by omega)) (by decide)
  rcases h1 with h0 | ⟨b, off, rfl, hb, hc⟩
  · cases h0
  have c0 : w.cell? ⟨b, off, none⟩ = some (.int .i64 x) := hc 0 (by simp)
  have c1 : w.cell? ⟨b, off + 1, none⟩ = some (.int .i64 y) := hc 1 (by simp)
  clear hc
  go_enter Try.func92, Try.ntmps92
  go_wp2
  refine wp_loop_rounds 3 ?_
  rw [rounds_succ]
  go_wp2
  rw [rounds_succ]
  go_wp2
  rw [rounds_succ]
  go_wp2_with (go_at_call 109; refine (size_2_ext x y _ x0 x1 y0 y1).mono ?_; rintro e w' ⟨rfl, hw⟩; subst w')
  go_returns
  exact ⟨rfl, by first | exact bAlloc (bAlloc (bAlloc (Below.refl _ _) _) _) _ | exact bAlloc (bAlloc (Below.refl _ _) _) _ | exact bAlloc (Below.refl _ _) _⟩
set_option maxRecDepth 20000 in
set_option maxHeartbeats 2000000 in
theorem ext_3_neg0 (x y z : Int) (a : Option Addr) (c : Nat) (w : World) (h1 : Ints w a [x, y, z])  (hb : x < 0) :
    Calls Try.prog 92 #[.slice a 3 c] w fun e w' => e = .returned (.tuple #[.agg #[.int .i64 0, .int .i64 0, .int .i64 0, .int .i64 0], .bool false]) ∧ Below w.heap.size w w' := by
  rcases h1 with h0 | ⟨b, off, rfl, hb, hc⟩
  · cases h0
  have c0 : w.cell? ⟨b, off, none⟩ = some (.int .i64 x) := hc 0 (by simp)
  have c1 : w.cell? ⟨b, off + 1, none⟩ = some (.int .i64 y) := hc 1 (by simp)
  have c2 : w.cell? ⟨b, off + 2, none⟩ = some (.int .i64 z) := hc 2 (by simp)
  clear hc
  go_enter Try.func92, Try.ntmps92
  go_wp2
  refine wp_loop_rounds 1 ?_
  rw [rounds_succ]
  go_wp2
  go_returns
  exact ⟨rfl, by first | exact bAlloc (bAlloc (bAlloc (Below.refl _ _) _) _) _ | exact bAlloc (bAlloc (Below.refl _ _) _) _ | exact bAlloc (Below.refl _ _) _⟩
set_option maxRecDepth 20000 in
set_option maxHeartbeats 2000000 in
theorem ext_3_great0 (x y z : Int) (a : Option Addr) (c : Nat) (w : World) (h1 : Ints w a [x, y, z])  (hb0 : 0 ≤ x) (hb : 300 < x) :
    Calls Try.prog 92 #[.slice a 3 c] w fun e w' => e = .returned (.tuple #[.agg #[.int .i64 0, .int .i64 0, .int .i64 0, .int .i64 0], .bool false]) ∧ Below w.heap.size w w' := by
  rcases h1 with h0 | ⟨b, off, rfl, hb, hc⟩
  · cases h0
  have c0 : w.cell? ⟨b, off, none⟩ = some (.int .i64 x) := hc 0 (by simp)
  have c1 : w.cell? ⟨b, off + 1, none⟩ = some (.int .i64 y) := hc 1 (by simp)
  have c2 : w.cell? ⟨b, off + 2, none⟩ = some (.int .i64 z) := hc 2 (by simp)
  clear hc
  go_enter Try.func92, Try.ntmps92
  go_wp2
  refine wp_loop_rounds 1 ?_
  rw [rounds_succ]
  go_wp2
  go_returns
  exact ⟨rfl, by first | exact bAlloc (bAlloc (bAlloc (Below.refl _ _) _) _) _ | exact bAlloc (bAlloc (Below.refl _ _) _) _ | exact bAlloc (Below.refl _ _) _⟩
set_option maxRecDepth 20000 in
set_option maxHeartbeats 2000000 in
theorem ext_3_neg1 (x y z : Int) (a : Option Addr) (c : Nat) (w : World) (h1 : Ints w a [x, y, z]) (x0 : 0 ≤ x) (x1 : x ≤ 300) (hb : y < 0) :
    Calls Try.prog 92 #[.slice a 3 c] w fun e w' => e = .returned (.tuple #[.agg #[.int .i64 0, .int .i64 0, .int .i64 0, .int .i64 0], .bool false]) ∧ Below w.heap.size w w' := by
  rcases h1 with h0 | ⟨b, off, rfl, hb, hc⟩
  · cases h0
  have c0 : w.cell? ⟨b, off, none⟩ = some (.int .i64 x) := hc 0 (by simp)
  have c1 : w.cell? ⟨b, off + 1, none⟩ = some (.int .i64 y) := hc 1 (by simp)
  have c2 : w.cell? ⟨b, off + 2, none⟩ = some (.int .i64 z) := hc 2 (by simp)
  clear hc
  go_enter Try.func92, Try.ntmps92
  go_wp2
  refine wp_loop_rounds 2 ?_
  rw [rounds_succ]
  go_wp2
  rw [rounds_succ]
  go_wp2
  go_returns
  exact ⟨rfl, by first | exact bAlloc (bAlloc (bAlloc (Below.refl _ _) _) _) _ | exact bAlloc (bAlloc (Below.refl _ _) _) _ | exact bAlloc (Below.refl _ _) _⟩
set_option maxRecDepth 20000 in
set_option maxHeartbeats 2000000 in
theorem ext_3_great1 (x y z : Int) (a : Option Addr) (c : Nat) (w : World) (h1 : Ints w a [x, y, z]) (x0 : 0 ≤ x) (x1 : x ≤ 300) (hb0 : 0 ≤ y) (hb : 300 < y) :
    Calls Try.prog 92 #[.slice a 3 c] w fun e w' => e = .returned (.tuple #[.agg #[.int .i64 0, .int .i64 0, .int .i64 0, .int .i64 0], .bool false]) ∧ Below w.heap.size w w' := by
  rcases h1 with h0 | ⟨b, off, rfl, hb, hc⟩
  · cases h0
  have c0 : w.cell? ⟨b, off, none⟩ = some (.int .i64 x) := hc 0 (by simp)
  have c1 : w.cell? ⟨b, off + 1, none⟩ = some (.int .i64 y) := hc 1 (by simp)
  have c2 : w.cell? ⟨b, off + 2, none⟩ = some (.int .i64 z) := hc 2 (by simp)
  clear hc
  go_enter Try.func92, Try.ntmps92
  go_wp2
  refine wp_loop_rounds 2 ?_
  rw [rounds_succ]
  go_wp2
  rw [rounds_succ]
  go_wp2
  go_returns
  exact ⟨rfl, by first | exact bAlloc (bAlloc (bAlloc (Below.refl _ _) _) _) _ | exact bAlloc (bAlloc (Below.refl _ _) _) _ | exact bAlloc (Below.refl _ _) _⟩
set_option maxRecDepth 20000 in
set_option maxHeartbeats 2000000 in
theorem ext_3_neg2 (x y z : Int) (a : Option Addr) (c : Nat) (w : World) (h1 : Ints w a [x, y, z]) (x0 : 0 ≤ x) (x1 : x ≤ 300) (y0 : 0 ≤ y) (y1 : y ≤ 300) (hb : z < 0) :
    Calls Try.prog 92 #[.slice a 3 c] w fun e w' => e = .returned (.tuple #[.agg #[.int .i64 0, .int .i64 0, .int .i64 0, .int .i64 0], .bool false]) ∧ Below w.heap.size w w' := by
  rcases h1 with h0 | ⟨b, off, rfl, hb, hc⟩
  · cases h0
  have c0 : w.cell? ⟨b, off, none⟩ = some (.int .i64 x) := hc 0 (by simp)
  have c1 : w.cell? ⟨b, off + 1, none⟩ = some (.int .i64 y) := hc 1 (by simp)
  have c2 : w.cell? ⟨b, off + 2, none⟩ = some (.int .i64 z) := hc 2 (by simp)
  clear hc
  go_enter Try.func92, Try.ntmps92
  go_wp2
  refine wp_loop_rounds 3 ?_
  rw [rounds_succ]
  go_wp2
  rw [rounds_succ]
  go_wp2
  rw [rounds_succ]
  go_wp2
  go_returns
  exact ⟨rfl, by first | exact bAlloc (bAlloc (bAlloc (Below.refl _ _) _) _) _ | exact bAlloc (bAlloc (Below.refl _ _) _) _ | exact bAlloc (Below.refl _ _) _⟩
set_option maxRecDepth 20000 in
set_option maxHeartbeats 2000000 in
theorem ext_3_great2 (x y z : Int) (a : Option Addr) (c : Nat) (w : World) (h1 : Ints w a [x, y, z]) (x0 : 0 ≤ x) (x1 : x ≤ 300) (y0 : 0 ≤ y) (y1 : y ≤ 300) (hb0 : 0 ≤ z) (hb : 300 < z) :
    Calls Try.prog 92 #[.slice a 3 c] w fun e w' => e = .returned (.tuple #[.agg #[.int .i64 0, .int .i64 0, .int .i64 0, .int .i64 0], .bool false]) ∧ Below w.heap.size w w' := by
  rcases h1 with h0 | ⟨b, off, rfl, hb, hc⟩
  · cases h0
  have c0 : w.cell? ⟨b, off, none⟩ = some (.int .i64 x) := hc 0 (by simp)
  have c1 : w.cell? ⟨b, off + 1, none⟩ = some (.int .i64 y) := hc 1 (by simp)
  have c2 : w.cell? ⟨b, off + 2, none⟩ = some (.int .i64 z) := hc 2 (by simp)
  clear hc
  go_enter Try.func92, Try.ntmps92
  go_wp2
  refine wp_loop_rounds 3 ?_
  rw [rounds_succ]
  go_wp2
  rw [rounds_succ]
  go_wp2
  rw [rounds_succ]
  go_wp2
  go_returns
  exact ⟨rfl, by first | exact bAlloc (bAlloc (bAlloc (Below.refl _ _) _) _) _ | exact bAlloc (bAlloc (Below.refl _ _) _) _ | exact bAlloc (Below.refl _ _) _⟩
set_option maxRecDepth 20000 in
set_option maxHeartbeats 2000000 in
theorem ext_3_ok (x y z : Int) (a : Option Addr) (c : Nat) (w : World) (h1 : Ints w a [x, y, z]) (x0 : 0 ≤ x) (x1 : x ≤ 300) (y0 : 0 ≤ y) (y1 : y ≤ 300) (z0 : 0 ≤ z) (z1 : z ≤ 300) (hp : x * y * z ≤ 300) :
    Calls Try.prog 92 #[.slice a 3 c] w fun e w' => e = .returned (.tuple #[.agg #[.int .i64 3, .int .i64 x, .int .i64 y, .int .i64 z], .bool true]) ∧ Below w.heap.size w w' := by
  have h2 : 0 ≤ x * y := Int.mul_nonneg x0 y0
  have h3 : x * y ≤ 90000 := Int.le_trans (Int.mul_le_mul x1 y1 y0 (by omega)) (by decide)
  have h4 : 0 ≤ x * y * z := Int.mul_nonneg h2 z0
  have h5 : x * y * z ≤ 27000000 := Int.le_trans (Int.mul_le_mul h3 z1 z0 (by omega)) (by decide)
  rcases h1 with h0 | ⟨b, off, rfl, hb, hc⟩
  · cases h0
  have c0 : w.cell? ⟨b, off, none⟩ = some (.int .i64 x) := hc 0 (by simp)
  have c1 : w.cell? ⟨b, off + 1, none⟩ = some (.int .i64 y) := hc 1 (by simp)
  have c2 : w.cell? ⟨b, off + 2, none⟩ = some (.int .i64 z) := hc 2 (by simp)
  clear hc
  go_enter Try.func92, Try.ntmps92
  go_wp2
  refine wp_loop_rounds 4 ?_
  rw [rounds_succ]
  go_wp2
  rw [rounds_succ]
  go_wp2
  rw [rounds_succ]
  go_wp2
  rw [rounds_succ]
  go_wp2_with (go_at_call 109; refine (size_3_ext x y z _ x0 x1 y0 y1 z0 z1).mono ?_; rintro e w' ⟨rfl, hw⟩; subst w')
  go_returns
  exact ⟨rfl, by first | exact bAlloc (bAlloc (bAlloc (Below.refl _ _) _) _) _ | exact bAlloc (bAlloc (Below.refl _ _) _) _ | exact bAlloc (Below.refl _ _) _⟩
set_option maxRecDepth 20000 in
set_option maxHeartbeats 2000000 in
theorem ext_3_much (x y z : Int) (a : Option Addr) (c : Nat) (w : World) (h1 : Ints w a [x, y, z]) (x0 : 0 ≤ x) (x1 : x ≤ 300) (y0 : 0 ≤ y) (y1 : y ≤ 300) (z0 : 0 ≤ z) (z1 : z ≤ 300) (hp : 300 < x * y * z) :
    Calls Try.prog 92 #[.slice a 3 c] w fun e w' => e = .returned (.tuple #[.agg #[.int .i64 0, .int .i64 0, .int .i64 0, .int .i64 0], .bool false]) ∧ Below w.heap.size w w' := by
  have h2 : 0 ≤ x * y := Int.mul_nonneg x0 y0
  have h3 : x * y ≤ 90000 := Int.le_trans (Int.mul_le_mul x1 y1 y0 (by omega)) (by decide)
  have h4 : 0 ≤ x * y * z := Int.mul_nonneg h2 z0
  have h5 : x * y * z ≤ 27000000 := Int.le_trans (Int.mul_le_mul h3 z1 z0 (by omega)) (by decide)
  rcases h1 with h0 | ⟨b, off, rfl, hb, hc⟩
  · cases h0
  have c0 : w.cell? ⟨b, off, none⟩ = some (.int .i64 x) := hc 0 (by simp)
  have c1 : w.cell? ⟨b, off + 1, none⟩ = some (.int .i64 y) := hc 1 (by simp)
  have c2 : w.cell? ⟨b, off + 2, none⟩ = some (.int .i64 z) := hc 2 (by simp)
  clear hc
  go_enter Try.func92, Try.ntmps92
  go_wp2
  refine wp_loop_rounds 4 ?_
  rw [rounds_succ]
  go_wp2
  rw [rounds_succ]
  go_wp2
  rw [rounds_succ]
  go_wp2
  rw [rounds_succ]
  go_wp2_with (go_at_call 109; refine (size_3_ext x y z _ x0 x1 y0 y1 z0 z1).mono ?_; rintro e w' ⟨rfl, hw⟩; subst w')
  go_returns
  exact ⟨rfl, by first | exact bAlloc (bAlloc (bAlloc (Below.refl _ _) _) _) _ | exact bAlloc (bAlloc (Below.refl _ _) _) _ | exact bAlloc (Below.refl _ _) _⟩
set_option maxRecDepth 20000 in
set_option maxHeartbeats 2000000 in
theorem ext_long (l : List Int) (a : Option Addr) (c : Nat) (w : World) (hl : 3 < l.length) :
    Calls Try.prog 92 #[.slice a l.length c] w fun e w' => e = .returned (.tuple #[.agg #[.int .i64 0, .int .i64 0, .int .i64 0, .int .i64 0], .bool false]) ∧ Below w.heap.size w w' := by
  have hl' : (3 : Int) < (l.length : Int) := by omega
  go_enter Try.func92, Try.ntmps92
  go_wp2
  go_returns
  exact ⟨rfl, bAlloc (Below.refl _ _) _⟩
end Go.Proofs.Ytcpgdhffemecbaa
namespace Go.Proofs.Ytcpgdhffemecbaa
open Go.RowKit
set_option linter.unusedVariables false
set_option maxRecDepth 20000 in
set_option maxHeartbeats 2000000 in
theorem reck_0_ext (w : World) :
    Calls Try.prog 111 #[.agg #[.int .i64 0, .int .i64 0, .int .i64 0, .int .i64 0], .agg #[.int .i64 0, .int .i64 0, .int .i64 0]] w fun e w' => e = .returned (.int .i64 (0)) ∧ ∃ o p, w' = (w.alloc o).alloc p := by
  go_enter Try.func111, Try.ntmps111
  go_wp2
  refine wp_loop_rounds 1 ?_
  rw [rounds_succ]
  go_wp2
  go_returns
  exact ⟨rfl, _, _, rfl⟩
set_option maxRecDepth 20000 in
set_option maxHeartbeats 2000000 in
theorem reck_1_ext (x : Int) (i : Int) (w : World) :
    Calls Try.prog 111 #[.agg #[.int .i64 1, .int .i64 x, .int .i64 0, .int .i64 0], .agg #[.int .i64 i, .int .i64 0, .int .i64 0]] w fun e w' => e = .returned (.int .i64 (wrap64 i)) ∧ ∃ o p, w' = (w.alloc o).alloc p := by
  go_enter Try.func111, Try.ntmps111
  go_wp2
  refine wp_loop_rounds 2 ?_
  rw [rounds_succ]
  go_wp2
  rw [rounds_succ]
  go_wp2
  go_returns
  exact ⟨rfl, _, _, rfl⟩
set_option maxRecDepth 20000 in
set_option maxHeartbeats 2000000 in
theorem reck_2_ext (x y : Int) (i j : Int) (w : World) :
    Calls Try.prog 111 #[.agg #[.int .i64 2, .int .i64 x, .int .i64 y, .int .i64 0], .agg #[.int .i64 i, .int .i64 j, .int .i64 0]] w fun e w' => e = .returned (.int .i64 (wrap64 (wrap64 (wrap64 i * y) + j))) ∧ ∃ o p, w' = (w.alloc o).alloc p := by
  go_enter Try.func111, Try.ntmps111
  go_wp2
  refine wp_loop_rounds 3 ?_
  rw [rounds_succ]
  go_wp2
  rw [rounds_succ]
  go_wp2
  rw [rounds_succ]
  go_wp2
  go_returns
  exact ⟨rfl, _, _, rfl⟩
set_option maxRecDepth 20000 in
set_option maxHeartbeats 2000000 in
theorem reck_3_ext (x y z : Int) (i j k : Int) (w : World) :
    Calls Try.prog 111 #[.agg #[.int .i64 3, .int .i64 x, .int .i64 y, .int .i64 z], .agg #[.int .i64 i, .int .i64 j, .int .i64 k]] w fun e w' => e = .returned (.int .i64 (wrap64 (wrap64 (wrap64 (wrap64 (wrap64 i * y) + j) * z) + k))) ∧ ∃ o p, w' = (w.alloc o).alloc p := by
  go_enter Try.func111, Try.ntmps111
  go_wp2
  refine wp_loop_rounds 4 ?_
  rw [rounds_succ]
  go_wp2
  rw [rounds_succ]
  go_wp2
  rw [rounds_succ]
  go_wp2
  rw [rounds_succ]
  go_wp2
  go_returns
  exact ⟨rfl, _, _, rfl⟩
set_option maxRecDepth 20000 in
set_option maxHeartbeats 2000000 in
theorem idx_0_neg (p : Int) (w : World) (q1 : p < 0) :
    Calls Try.prog 110 #[.agg #[.int .i64 0, .int .i64 0, .int .i64 0, .int .i64 0], .int .i64 p] w fun e w' => e = .returned (.tuple #[.agg #[.int .i64 0, .int .i64 0, .int .i64 0], .bool false]) ∧ ∃ o0 o1 o2, w' = (((w.alloc o0).alloc o1).alloc o2) := by
  go_enter Try.func110, Try.ntmps110
  go_wp2
  go_returns
  exact ⟨rfl, _, _, _, rfl⟩
set_option maxRecDepth 20000 in
set_option maxHeartbeats 2000000 in
theorem idx_0_much (p : Int) (w : World)  (q1 : 0 ≤ p) (q2 : 1 ≤ p) :
    Calls Try.prog 110 #[.agg #[.int .i64 0, .int .i64 0, .int .i64 0, .int .i64 0], .int .i64 p] w fun e w' => e = .returned (.tuple #[.agg #[.int .i64 0, .int .i64 0, .int .i64 0], .bool false]) ∧ ∃ o0 o1 o2 o3, w' = ((((w.alloc o0).alloc o1).alloc o2).alloc o3) := by
  go_enter Try.func110, Try.ntmps110
  go_wp2_with (go_at_call 109; refine (size_0_ext  _ ).mono ?_; rintro e w' ⟨rfl, hw⟩; subst w')
  go_returns
  exact ⟨rfl, _, _, _, _, rfl⟩
set_option maxRecDepth 20000 in
set_option maxHeartbeats 2000000 in
theorem idx_0_in (p : Int) (w : World)  (q1 : 0 ≤ p) (q2 : p < 1) (q3 : p < 300) :
    Calls Try.prog 110 #[.agg #[.int .i64 0, .int .i64 0, .int .i64 0, .int .i64 0], .int .i64 p] w fun e w' => e = .returned (.tuple #[.agg #[.int .i64 0, .int .i64 0, .int .i64 0], .bool true]) ∧ ∃ o0 o1 o2 o3, w' = ((((w.alloc o0).alloc o1).alloc o2).alloc o3) := by
  go_enter Try.func110, Try.ntmps110
  go_wp2_with (go_at_call 109; refine (size_0_ext  _ ).mono ?_; rintro e w' ⟨rfl, hw⟩; subst w')
  refine wp_loop_rounds 1 ?_
  rw [rounds_succ]
  go_wp2
  go_returns
  exact ⟨rfl, _, _, _, _, rfl⟩
set_option maxRecDepth 20000 in
set_option maxHeartbeats 2000000 in
theorem idx_1_neg (x : Int) (p : Int) (w : World) (q1 : p < 0) :
    Calls Try.prog 110 #[.agg #[.int .i64 1, .int .i64 x, .int .i64 0, .int .i64 0], .int .i64 p] w fun e w' => e = .returned (.tuple #[.agg #[.int .i64 0, .int .i64 0, .int .i64 0], .bool false]) ∧ ∃ o0 o1 o2, w' = (((w.alloc o0).alloc o1).alloc o2) := by
  go_enter Try.func110, Try.ntmps110
  go_wp2
  go_returns
  exact ⟨rfl, _, _, _, rfl⟩
set_option maxRecDepth 20000 in
set_option maxHeartbeats 2000000 in
theorem idx_1_much (x : Int) (p : Int) (w : World) (x0 : 0 ≤ x) (x1 : x ≤ 300) (q1 : 0 ≤ p) (q2 : x ≤ p) :
    Calls Try.prog 110 #[.agg #[.int .i64 1, .int .i64 x, .int .i64 0, .int .i64 0], .int .i64 p] w fun e w' => e = .returned (.tuple #[.agg #[.int .i64 0, .int .i64 0, .int .i64 0], .bool false]) ∧ ∃ o0 o1 o2 o3, w' = ((((w.alloc o0).alloc o1).alloc o2).alloc o3) := by
  go_enter Try.func110, Try.ntmps110
  go_wp2_with (go_at_call 109; refine (size_1_ext x _ x0 x1).mono ?_; rintro e w' ⟨rfl, hw⟩; subst w')
  go_returns
  exact ⟨rfl, _, _, _, _, rfl⟩
set_option maxRecDepth 20000 in
set_option maxHeartbeats 2000000 in
theorem idx_1_in (x : Int) (p : Int) (w : World) (x0 : 0 < x) (x1 : x ≤ 300) (q1 : 0 ≤ p) (q2 : p < x) (q3 : p < 300) :
    Calls Try.prog 110 #[.agg #[.int .i64 1, .int .i64 x, .int .i64 0, .int .i64 0], .int .i64 p] w fun e w' => e = .returned (.tuple #[.agg #[.int .i64 (p % x), .int .i64 0, .int .i64 0], .bool true]) ∧ ∃ o0 o1 o2 o3, w' = ((((w.alloc o0).alloc o1).alloc o2).alloc o3) := by
  go_enter Try.func110, Try.ntmps110
  go_wp2_with (go_at_call 109; refine (size_1_ext x _ (Int.le_of_lt x0) x1).mono ?_; rintro e w' ⟨rfl, hw⟩; subst w')
  refine wp_loop_rounds 2 ?_
  rw [rounds_succ]
  go_wp2
  rw [rounds_succ]
  go_wp2
  go_returns
  exact ⟨rfl, _, _, _, _, rfl⟩
set_option maxRecDepth 20000 in
set_option maxHeartbeats 2000000 in
theorem idx_2_neg (x y : Int) (p : Int) (w : World) (q1 : p < 0) :
    Calls Try.prog 110 #[.agg #[.int .i64 2, .int .i64 x, .int .i64 y, .int .i64 0], .int .i64 p] w fun e w' => e = .returned (.tuple #[.agg #[.int .i64 0, .int .i64 0, .int .i64 0], .bool false]) ∧ ∃ o0 o1 o2, w' = (((w.alloc o0).alloc o1).alloc o2) := by
  go_enter Try.func110, Try.ntmps110
  go_wp2
  go_returns
  exact ⟨rfl, _, _, _, rfl⟩
set_option maxRecDepth 20000 in
set_option maxHeartbeats 2000000 in
theorem idx_2_much (x y : Int) (p : Int) (w : World) (x0 : 0 ≤ x) (x1 : x ≤ 300) (y0 : 0 ≤ y) (y1 : y ≤ 300) (q1 : 0 ≤ p) (q2 : x * y ≤ p) :
    Calls Try.prog 110 #[.agg #[.int .i64 2, .int .i64 x, .int .i64 y, .int .i64 0], .int .i64 p] w fun e w' => e = .returned (.tuple #[.agg #[.int .i64 0, .int .i64 0, .int .i64 0], .bool false]) ∧ ∃ o0 o1 o2 o3, w' = ((((w.alloc o0).alloc o1).alloc o2).alloc o3) := by
  go_enter Try.func110, Try.ntmps110
  go_wp2_with (go_at_call 109; refine (size_2_ext x y _ x0 x1 y0 y1).mono ?_; rintro e w' ⟨rfl, hw⟩; subst w')
  go_returns
  exact ⟨rfl, _, _, _, _, rfl⟩
set_option maxRecDepth 20000 in
set_option maxHeartbeats 2000000 in
theorem idx_2_in (x y : Int) (p : Int) (w : World) (x0 : 0 < x) (x1 : x ≤ 300) (y0 : 0 < y) (y1 : y ≤ 300) (q1 : 0 ≤ p) (q2 : p < x * y) (q3 : p < 300) :
    Calls Try.prog 110 #[.agg #[.int .i64 2, .int .i64 x, .int .i64 y, .int .i64 0], .int .i64 p] w fun e w' => e = .returned (.tuple #[.agg #[.int .i64 (p / y % x), .int .i64 (p % y), .int .i64 0], .bool true]) ∧ ∃ o0 o1 o2 o3, w' = ((((w.alloc o0).alloc o1).alloc o2).alloc o3) := by
  have d1 : 0 ≤ p / y := Int.ediv_nonneg q1 (by omega)
  have d2 : p / y ≤ p := Int.ediv_le_self _ q1
  go_enter Try.func110, Try.ntmps110
  go_wp2_with (go_at_call 109; refine (size_2_ext x y _ (Int.le_of_lt x0) x1 (Int.le_of_lt y0) y1).mono ?_; rintro e w' ⟨rfl, hw⟩; subst w')
  refine wp_loop_rounds 3 ?_
  rw [rounds_succ]
  go_wp2
  rw [rounds_succ]
  go_wp2
  rw [rounds_succ]
  go_wp2
  go_returns
  exact ⟨rfl, _, _, _, _, rfl⟩
set_option maxRecDepth 20000 in
set_option maxHeartbeats 2000000 in
theorem idx_3_neg (x y z : Int) (p : Int) (w : World) (q1 : p < 0) :
    Calls Try.prog 110 #[.agg #[.int .i64 3, .int .i64 x, .int .i64 y, .int .i64 z], .int .i64 p] w fun e w' => e = .returned (.tuple #[.agg #[.int .i64 0, .int .i64 0, .int .i64 0], .bool false]) ∧ ∃ o0 o1 o2, w' = (((w.alloc o0).alloc o1).alloc o2) := by
  go_enter Try.func110, Try.ntmps110
  go_wp2
  go_returns
  exact ⟨rfl, _, _, _, rfl⟩
set_option maxRecDepth 20000 in
set_option maxHeartbeats 2000000 in
theorem idx_3_much (x y z : Int) (p : Int) (w : World) (x0 : 0 ≤ x) (x1 : x ≤ 300) (y0 : 0 ≤ y) (y1 : y ≤ 300) (z0 : 0 ≤ z) (z1 : z ≤ 300) (q1 : 0 ≤ p) (q2 : x * y * z ≤ p) :
    Calls Try.prog 110 #[.agg #[.int .i64 3, .int .i64 x, .int .i64 y, .int .i64 z], .int .i64 p] w fun e w' => e = .returned (.tuple #[.agg #[.int .i64 0, .int .i64 0, .int .i64 0], .bool false]) ∧ ∃ o0 o1 o2 o3, w' = ((((w.alloc o0).alloc o1).alloc o2).alloc o3) := by
  go_enter Try.func110, Try.ntmps110
  go_wp2_with (go_at_call 109; refine (size_3_ext x y z _ x0 x1 y0 y1 z0 z1).mono ?_; rintro e w' ⟨rfl, hw⟩; subst w')
  go_returns
  exact ⟨rfl, _, _, _, _, rfl⟩
set_option maxRecDepth 20000 in
set_option maxHeartbeats 2000000 in
theorem idx_3_in (x y z : Int) (p : Int) (w : World) (x0 : 0 < x) (x1 : x ≤ 300) (y0 : 0 < y) (y1 : y ≤ 300) (z0 : 0 < z) (z1 : z ≤ 300) (q1 : 0 ≤ p) (q2 : p < x * y * z) (q3 : p < 300) :
    Calls Try.prog 110 #[.agg #[.int .i64 3, .int .i64 x, .int .i64 y, .int .i64 z], .int .i64 p] w fun e w' => e = .returned (.tuple #[.agg #[.int .i64 (p / z / y % x), .int .i64 (p / z % y), .int .i64 (p % z)], .bool true]) ∧ ∃ o0 o1 o2 o3, w' = ((((w.alloc o0).alloc o1).alloc o2).alloc o3) := by
  have d1 : 0 ≤ p / z := Int.ediv_nonneg q1 (by omega)
  have d2 : p / z ≤ p := Int.ediv_le_self _ q1
  have d3 : 0 ≤ p / z / y := Int.ediv_nonneg d1 (by omega)
  have d4 : p / z / y ≤ p / z := Int.ediv_le_self _ d1
  go_enter Try.func110, Try.ntmps110
  go_wp2_with (go_at_call 109; refine (size_3_ext x y z _ (Int.le_of_lt x0) x1 (Int.le_of_lt y0) y1 (Int.le_of_lt z0) z1).mono ?_; rintro e w' ⟨rfl, hw⟩; subst w')
  refine wp_loop_rounds 4 ?_
  rw [rounds_succ]
  go_wp2
  rw [rounds_succ]
  go_wp2
  rw [rounds_succ]
  go_wp2
  rw [rounds_succ]
  go_wp2
  go_returns
  exact ⟨rfl, _, _, _, _, rfl⟩
end Go.Proofs.Ytcpgdhffemecbaa
namespace Go.Proofs.Ytcpgdhffemecbaa
open Go.RowKit
set_option linter.unusedVariables false
theorem cell_new (w : World) (cs : Array Value) (t : TypeId) {k : Nat} {v : Value} (h : cs[k]? = some v) : (w.alloc (.cells cs t)).cell? ⟨w.heap.size, k, none⟩ = some v := by
  rw [World.cell?_alloc_at _ _ _ _ rfl]; exact h
theorem kept4 (w : World) (A o0 o1 o2 o3 : Obj) : Below (w.alloc A).heap.size (w.alloc A) (((((w.alloc A).alloc o0).alloc o1).alloc o2).alloc o3) := bAlloc (bAlloc (bAlloc (bAlloc (Below.refl _ _) _) _) _) _
theorem int_size : (Try.prog.info? 3).map (·.size) = some 1 := by kernel_rfl
/-- The cells of a row that is known whole. -/
theorem src_row {w : World} {g : Nat} {cs : List Value} {t : TypeId} {fr : Nat × Nat} (hg : w.heap[g]? = some (.cells cs.toArray t fr)) (n : Nat) : ∀ (j : Nat) (v : Value), (cs.take n)[j]? = some v → w.cell? ((⟨g, 0, none⟩ : Addr).add j) = some v := by
  intro j v h
  have hj : cs[j]? = some v := by
    rw [List.getElem?_take] at h
    split at h
    · exact h
    · cases h
  have e : (⟨g, 0, none⟩ : Addr).add j = ⟨g, j, none⟩ := by unfold Addr.add; split <;> simp_all
  rw [e]
  simp only [World.cell?, hg]
  simpa using hj
theorem modify_last' {α : Type} (xs : Array α) (a b : α) (f : α → α) (hf : f a = b) : (xs.push a).modify xs.size f = xs.push b := by
  apply Array.ext
  · simp
  · intro i h1 h2
    simp only [Array.getElem_modify]
    by_cases e : i < xs.size
    · simp [Array.getElem_push, e, show ¬ xs.size = i by omega]
    · have : xs.size = i := by simp at h2; omega
      simp [Array.getElem_push, this, hf]
theorem setRow_last (w : World) (old cs : Array Value) (t : TypeId) : (w.alloc (.cells old t)).setRow w.heap.size cs = w.alloc (.cells cs t) := by
  unfold World.setRow
  rw [show (w.alloc (.cells old t)).heap = w.heap.push (.cells old t) from rfl, modify_last' _ _ (.cells cs t) _ rfl]
  rfl
/-- Out of an array of three into a new list. -/
theorem copy_out (w : World) (ty t : TypeId) (src Z : List Value) (n : Nat) (hn : n ≤ 3) (hs : src.length = 3) (hZ : Z.length = n) (h1 : ∀ v ∈ src, v.oneCell' = true) :
    (Builtin.copy_ #[24, 24] ty #[.slice (some ⟨w.heap.size + 1, 0, none⟩) n n, .slice (some ⟨w.heap.size, 0, none⟩) 3 3]).run Try.prog ((w.alloc (.cells src.toArray t)).alloc (.cells Z.toArray 3)) =
      .ok (.int .i64 n) ((w.alloc (.cells src.toArray t)).alloc (.cells (src.take n).toArray 3)) := by
  have hl : (src.take n).length = n := by simp; omega
  have e : (w.alloc (.cells src.toArray t)).heap.size = w.heap.size + 1 := by simp
  have hg : ((w.alloc (.cells src.toArray t)).alloc (.cells Z.toArray 3)).heap[w.heap.size + 1]? = some (.cells Z.toArray 3 (0, 0)) := by rw [← e]; exact heap_alloc_new _ _
  have hg0 : ((w.alloc (.cells src.toArray t)).alloc (.cells Z.toArray 3)).heap[w.heap.size]? = some (.cells src.toArray t (0, 0)) := by rw [heap_alloc_old _ _ (by simp)]; exact heap_alloc_new _ _
  have q := run_copy_row Try.prog ((w.alloc (.cells src.toArray t)).alloc (.cells Z.toArray 3)) 24 24 ty 3 (w.heap.size + 1) 0 n n ⟨w.heap.size, 0, none⟩ 3 3 Z.toArray 3 (src.take n) Try.underlying24 int_size hg (by rw [hl]; exact (Nat.min_eq_right hn).symm) (src_row hg0 n) (by simp; omega) (fun v hv => h1 v (List.mem_of_mem_take hv))
  rw [q, hl]
  have e2 : (Z.toArray.toList.take 0 ++ src.take n ++ Z.toArray.toList.drop (0 + n)).toArray = (src.take n).toArray := by simp [hZ]
  rw [e2, ← e, setRow_last]
  rfl
theorem ints_src {w : World} {b off : Nat} {l : List Int} (h : ∀ k, k < l.length → w.cell? ⟨b, off + k, none⟩ = some (.int .i64 (l.getD k 0))) : ∀ (j : Nat) (v : Value), (l.map (Value.int .i64))[j]? = some v → w.cell? ((⟨b, off, none⟩ : Addr).add j) = some v := by
  intro j v hv
  rw [List.getElem?_map] at hv
  cases hx : l[j]? with
  | none => rw [hx] at hv; cases hv
  | some x =>
    rw [hx] at hv
    obtain ⟨hj, rfl⟩ := List.getElem?_eq_some_iff.1 hx
    have e : (⟨b, off, none⟩ : Addr).add j = ⟨b, off + j, none⟩ := by unfold Addr.add; split <;> simp_all
    rw [e, h j hj]
    simpa [hj] using hv
set_option maxRecDepth 20000 in
/-- Out of a list into a new array of three. -/
theorem copy_in {w : World} {a : Option Addr} {l : List Int} (h1 : Ints w a l) (ty t : TypeId) (d : Nat) (hn : l.length ≤ 3) :
    (Builtin.copy_ #[24, 24] ty #[.slice (some ⟨w.heap.size, 0, none⟩) 3 3, .slice a l.length d]).run Try.prog (w.alloc (.cells #[.int .i64 0, .int .i64 0, .int .i64 0] t)) =
      .ok (.int .i64 l.length) (w.alloc (.cells (axC l) t)) := by
  by_cases h0 : l.length = 0
  · obtain rfl : l = [] := List.eq_nil_of_length_eq_zero h0
    exact run_copy_none (P := Try.prog) _ 24 24 ty 3 _ _ _ _ _ _ Try.underlying24 int_size rfl
  · rcases h1 with rfl | ⟨b, off, rfl, hb, hc⟩
    · exact absurd rfl h0
    · have hg : (w.alloc (.cells #[.int .i64 0, .int .i64 0, .int .i64 0] t)).heap[w.heap.size]? = some (.cells #[.int .i64 0, .int .i64 0, .int .i64 0] t (0, 0)) := heap_alloc_new _ _
      have hc' : ∀ k, k < l.length → (w.alloc (.cells #[.int .i64 0, .int .i64 0, .int .i64 0] t)).cell? ⟨b, off + k, none⟩ = some (.int .i64 (l.getD k 0)) := by
        intro k hk
        rw [(bAlloc (Below.refl w.heap.size w) _).cell (p := ⟨b, off + k, none⟩) hb]
        exact hc k hk
      have q := run_copy_row Try.prog (w.alloc (.cells #[.int .i64 0, .int .i64 0, .int .i64 0] t)) 24 24 ty 3 w.heap.size 0 3 3 ⟨b, off, none⟩ l.length d #[.int .i64 0, .int .i64 0, .int .i64 0] t (l.map (Value.int .i64)) Try.underlying24 int_size hg (by rw [List.length_map]; exact (Nat.min_eq_left hn).symm) (ints_src hc') (by simp; omega) (by intro v hv; obtain ⟨x, _, rfl⟩ := List.mem_map.1 hv; rfl)
      rw [q, setRow_last, List.length_map]
      congr 3
      rcases len3 hn with rfl | ⟨x, rfl⟩ | ⟨x, y, rfl⟩ | ⟨x, y, z, rfl⟩ <;> rfl
end Go.Proofs.Ytcpgdhffemecbaa
namespace Go.Proofs.Ytcpgdhffemecbaa
open Go.RowKit
set_option linter.unusedVariables false
/-- Arrays of three numbers, compared as a whole. -/
theorem eq_axes (w : World) (i j k i' j' k' : Int) : (Op.equalIn 10000 102 (.agg #[.int .i64 i, .int .i64 j, .int .i64 k]) (.agg #[.int .i64 i', .int .i64 j', .int .i64 k'])).run Try.prog w = .ok (i == i' && (j == j' && k == k')) w := by
  have hs : (sizeOf 3).run Try.prog w = .ok 1 w := by kernel_rfl
  have p0 : ∀ a b c : Int, (part 3 #[.int .i64 a, .int .i64 b, .int .i64 c] 0).run Try.prog w = .ok (.int .i64 a) w := fun a b c => by kernel_rfl
  have p1 : ∀ a b c : Int, (part 3 #[.int .i64 a, .int .i64 b, .int .i64 c] 1).run Try.prog w = .ok (.int .i64 b) w := fun a b c => by kernel_rfl
  have p2 : ∀ a b c : Int, (part 3 #[.int .i64 a, .int .i64 b, .int .i64 c] 2).run Try.prog w = .ok (.int .i64 c) w := fun a b c => by kernel_rfl
  have ei : ∀ a b : Int, (Op.equalIn (9998 + 1) 3 (.int .i64 a) (.int .i64 b)).run Try.prog w = .ok (a == b) w := fun a b => run_equalIn_int w 9998 3 .i64 .i64 a b Try.underlying3
  show (Op.equalIn (9998 + 1 + 1) 102 _ _).run Try.prog w = _
  rw [Op.equalIn]
  generalize 9998 + 1 = d at ei ⊢
  simp only [Sem.run_bind, run_underlying Try.underlying102, Result.andThen_ok, hs]
  simp only [Std.Legacy.Range.forIn_eq_forIn_range', Std.Legacy.Range.size, List.range', Nat.sub_zero, Nat.add_sub_cancel, Nat.div_one, List.forIn_cons, List.forIn_nil, Sem.run_bind]
  cases h0 : i == i' <;> cases h1 : j == j' <;> cases h2 : k == k' <;> simp [p0, p1, p2, ei, h0, h1, h2]
theorem newInts_2 (w : World) (A : Obj) (l : List Int) {B : Nat} (hB : B ≤ w.heap.size) (hl : l.length ≤ 1073741824) : NewInts B ((w.alloc A).alloc (.cells (vals l) 3)) (.slice (some ⟨w.heap.size + 1, 0, none⟩) l.length l.length) l := by
  have e : (w.alloc A).heap.size = w.heap.size + 1 := by simp
  rw [← e]
  exact newInts_alloc (w.alloc A) l (by omega) hl
set_option maxRecDepth 20000 in
set_option maxHeartbeats 2000000 in
theorem index_0_impl (p : Int) (a : Option Addr) (c : Nat) (w : World) (h1 : Ints w a [])  (q1 : 0 ≤ p) (q2 : p < 1)  :
    Calls Try.prog 64 #[.slice a 0 c, .int .i64 p] w fun e w' => ∃ v, e = .returned v ∧ NewInts w.heap.size w' v [] ∧ Below w.heap.size w w' := by
  have H1 : Hid (Ints w a []) := h1
  clear h1
  have hmk : ∀ w, (Instr.makeSlice 24 (.int .i64 0) (.int .i64 0)).run Try.prog w = .ok (.slice (some ⟨w.heap.size, 0, none⟩) 0 0) (w.alloc (.cells #[] 3)) := fun w => make_ints 0 (by omega) w
  go_enter Try.func64, Try.ntmps64
  go_wp2_with fail
  refine (ext_0_ok  _ _ _ H1.out ).mono ?_
  rintro e w1 ⟨rfl, hb⟩
  have HB : Hid (Below w.heap.size w w1) := hb
  clear hb
  go_wp2_with fail
  refine (idx_0_in  p _  q1 q2 (by omega)).mono ?_
  rintro e w2 ⟨rfl, o0, o1, o2, o3, hw⟩
  have HB2 : Hid (Below w.heap.size w w2) := by rw [hw]; exact bTrans (bAlloc HB.out _) (kept4 _ _ _ _ _ _)
  have hc : ∀ o : Obj, (w2.alloc o).cell? ⟨w1.heap.size, 0, none⟩ = some (.int .i64 0) := by
    intro o
    rw [hw, (bAlloc (kept4 w1 _ o0 o1 o2 o3) o).cell (p := ⟨w1.heap.size, 0, none⟩) (by simp)]
    exact cell_new _ _ _ rfl
  clear hw
  have hcp : (Builtin.copy_ #[24, 24] 3 #[.slice (some ⟨w2.heap.size + 1, 0, none⟩) 0 0, .slice (some ⟨w2.heap.size, 0, none⟩) 3 3]).run Try.prog ((w2.alloc (.cells #[.int .i64 0, .int .i64 0, .int .i64 0] 102)).alloc (.cells #[] 3)) = .ok (.int .i64 0) ((w2.alloc (.cells #[.int .i64 0, .int .i64 0, .int .i64 0] 102)).alloc (.cells #[] 3)) := copy_out w2 3 102 [.int .i64 0, .int .i64 0, .int .i64 0] [] 0 (by omega) rfl rfl (by simp [Value.oneCell'])
  go_wp2
  go_ret
  exact ⟨_, rfl, newInts_2 w2 _ [] HB2.out.size (by simp), bAlloc (bAlloc HB2.out _) _⟩
set_option maxRecDepth 20000 in
set_option maxHeartbeats 2000000 in
theorem index_1_impl (x : Int) (i : Int) (p : Int) (a : Option Addr) (c : Nat) (w : World) (h1 : Ints w a [x]) (x0 : 0 < x) (x1 : x ≤ 300) (q1 : 0 ≤ p) (q2 : p < x) (e0 : p % x = i) :
    Calls Try.prog 64 #[.slice a 1 c, .int .i64 p] w fun e w' => ∃ v, e = .returned v ∧ NewInts w.heap.size w' v [i] ∧ Below w.heap.size w w' := by
  have H1 : Hid (Ints w a [x]) := h1
  clear h1
  have HE0 : Hid (p % x = i) := e0
  clear e0
  have hmk : ∀ w, (Instr.makeSlice 24 (.int .i64 1) (.int .i64 1)).run Try.prog w = .ok (.slice (some ⟨w.heap.size, 0, none⟩) 1 1) (w.alloc (.cells #[.int .i64 0] 3)) := fun w => make_ints 1 (by omega) w
  go_enter Try.func64, Try.ntmps64
  go_wp2_with fail
  refine (ext_1_ok x _ _ _ H1.out (by omega) x1).mono ?_
  rintro e w1 ⟨rfl, hb⟩
  have HB : Hid (Below w.heap.size w w1) := hb
  clear hb
  go_wp2_with fail
  refine (idx_1_in x p _ x0 x1 q1 q2 (by omega)).mono ?_
  rintro e w2 ⟨rfl, o0, o1, o2, o3, hw⟩
  have HB2 : Hid (Below w.heap.size w w2) := by rw [hw]; exact bTrans (bAlloc HB.out _) (kept4 _ _ _ _ _ _)
  have hc : ∀ o : Obj, (w2.alloc o).cell? ⟨w1.heap.size, 0, none⟩ = some (.int .i64 1) := by
    intro o
    rw [hw, (bAlloc (kept4 w1 _ o0 o1 o2 o3) o).cell (p := ⟨w1.heap.size, 0, none⟩) (by simp)]
    exact cell_new _ _ _ rfl
  clear hw
  rw [HE0.out]
  have hcp : (Builtin.copy_ #[24, 24] 3 #[.slice (some ⟨w2.heap.size + 1, 0, none⟩) 1 1, .slice (some ⟨w2.heap.size, 0, none⟩) 3 3]).run Try.prog ((w2.alloc (.cells #[.int .i64 i, .int .i64 0, .int .i64 0] 102)).alloc (.cells #[.int .i64 0] 3)) = .ok (.int .i64 1) ((w2.alloc (.cells #[.int .i64 i, .int .i64 0, .int .i64 0] 102)).alloc (.cells #[.int .i64 i] 3)) := copy_out w2 3 102 [.int .i64 i, .int .i64 0, .int .i64 0] [.int .i64 0] 1 (by omega) rfl rfl (by simp [Value.oneCell'])
  go_wp2
  go_ret
  exact ⟨_, rfl, newInts_2 w2 _ [i] HB2.out.size (by simp), bAlloc (bAlloc HB2.out _) _⟩
set_option maxRecDepth 20000 in
set_option maxHeartbeats 2000000 in
theorem index_2_impl (x y : Int) (i j : Int) (p : Int) (a : Option Addr) (c : Nat) (w : World) (h1 : Ints w a [x, y]) (x0 : 0 < x) (x1 : x ≤ 300) (y0 : 0 < y) (y1 : y ≤ 300) (hp : x * y ≤ 300) (q1 : 0 ≤ p) (q2 : p < x * y) (e0 : p / y % x = i) (e1 : p % y = j) :
    Calls Try.prog 64 #[.slice a 2 c, .int .i64 p] w fun e w' => ∃ v, e = .returned v ∧ NewInts w.heap.size w' v [i, j] ∧ Below w.heap.size w w' := by
  have H1 : Hid (Ints w a [x, y]) := h1
  clear h1
  have HE0 : Hid (p / y % x = i) := e0
  clear e0
  have HE1 : Hid (p % y = j) := e1
  clear e1
  have hmk : ∀ w, (Instr.makeSlice 24 (.int .i64 2) (.int .i64 2)).run Try.prog w = .ok (.slice (some ⟨w.heap.size, 0, none⟩) 2 2) (w.alloc (.cells #[.int .i64 0, .int .i64 0] 3)) := fun w => make_ints 2 (by omega) w
  go_enter Try.func64, Try.ntmps64
  go_wp2_with fail
  refine (ext_2_ok x y _ _ _ H1.out (by omega) x1 (by omega) y1 hp).mono ?_
  rintro e w1 ⟨rfl, hb⟩
  have HB : Hid (Below w.heap.size w w1) := hb
  clear hb
  go_wp2_with fail
  refine (idx_2_in x y p _ x0 x1 y0 y1 q1 q2 (by omega)).mono ?_
  rintro e w2 ⟨rfl, o0, o1, o2, o3, hw⟩
  have HB2 : Hid (Below w.heap.size w w2) := by rw [hw]; exact bTrans (bAlloc HB.out _) (kept4 _ _ _ _ _ _)
  have hc : ∀ o : Obj, (w2.alloc o).cell? ⟨w1.heap.size, 0, none⟩ = some (.int .i64 2) := by
    intro o
    rw [hw, (bAlloc (kept4 w1 _ o0 o1 o2 o3) o).cell (p := ⟨w1.heap.size, 0, none⟩) (by simp)]
    exact cell_new _ _ _ rfl
  clear hw
  rw [HE0.out, HE1.out]
  have hcp : (Builtin.copy_ #[24, 24] 3 #[.slice (some ⟨w2.heap.size + 1, 0, none⟩) 2 2, .slice (some ⟨w2.heap.size, 0, none⟩) 3 3]).run Try.prog ((w2.alloc (.cells #[.int .i64 i, .int .i64 j, .int .i64 0] 102)).alloc (.cells #[.int .i64 0, .int .i64 0] 3)) = .ok (.int .i64 2) ((w2.alloc (.cells #[.int .i64 i, .int .i64 j, .int .i64 0] 102)).alloc (.cells #[.int .i64 i, .int .i64 j] 3)) := copy_out w2 3 102 [.int .i64 i, .int .i64 j, .int .i64 0] [.int .i64 0, .int .i64 0] 2 (by omega) rfl rfl (by simp [Value.oneCell'])
  go_wp2
  go_ret
  exact ⟨_, rfl, newInts_2 w2 _ [i, j] HB2.out.size (by simp), bAlloc (bAlloc HB2.out _) _⟩
set_option maxRecDepth 20000 in
set_option maxHeartbeats 2000000 in
theorem index_3_impl (x y z : Int) (i j k : Int) (p : Int) (a : Option Addr) (c : Nat) (w : World) (h1 : Ints w a [x, y, z]) (x0 : 0 < x) (x1 : x ≤ 300) (y0 : 0 < y) (y1 : y ≤ 300) (z0 : 0 < z) (z1 : z ≤ 300) (hp : x * y * z ≤ 300) (q1 : 0 ≤ p) (q2 : p < x * y * z) (e0 : p / z / y % x = i) (e1 : p / z % y = j) (e2 : p % z = k) :
    Calls Try.prog 64 #[.slice a 3 c, .int .i64 p] w fun e w' => ∃ v, e = .returned v ∧ NewInts w.heap.size w' v [i, j, k] ∧ Below w.heap.size w w' := by
  have H1 : Hid (Ints w a [x, y, z]) := h1
  clear h1
  have HE0 : Hid (p / z / y % x = i) := e0
  clear e0
  have HE1 : Hid (p / z % y = j) := e1
  clear e1
  have HE2 : Hid (p % z = k) := e2
  clear e2
  have hmk : ∀ w, (Instr.makeSlice 24 (.int .i64 3) (.int .i64 3)).run Try.prog w = .ok (.slice (some ⟨w.heap.size, 0, none⟩) 3 3) (w.alloc (.cells #[.int .i64 0, .int .i64 0, .int .i64 0] 3)) := fun w => make_ints 3 (by omega) w
  go_enter Try.func64, Try.ntmps64
  go_wp2_with fail
  refine (ext_3_ok x y z _ _ _ H1.out (by omega) x1 (by omega) y1 (by omega) z1 hp).mono ?_
  rintro e w1 ⟨rfl, hb⟩
  have HB : Hid (Below w.heap.size w w1) := hb
  clear hb
  go_wp2_with fail
  refine (idx_3_in x y z p _ x0 x1 y0 y1 z0 z1 q1 q2 (by omega)).mono ?_
  rintro e w2 ⟨rfl, o0, o1, o2, o3, hw⟩
  have HB2 : Hid (Below w.heap.size w w2) := by rw [hw]; exact bTrans (bAlloc HB.out _) (kept4 _ _ _ _ _ _)
  have hc : ∀ o : Obj, (w2.alloc o).cell? ⟨w1.heap.size, 0, none⟩ = some (.int .i64 3) := by
    intro o
    rw [hw, (bAlloc (kept4 w1 _ o0 o1 o2 o3) o).cell (p := ⟨w1.heap.size, 0, none⟩) (by simp)]
    exact cell_new _ _ _ rfl
  clear hw
  rw [HE0.out, HE1.out, HE2.out]
  have hcp : (Builtin.copy_ #[24, 24] 3 #[.slice (some ⟨w2.heap.size + 1, 0, none⟩) 3 3, .slice (some ⟨w2.heap.size, 0, none⟩) 3 3]).run Try.prog ((w2.alloc (.cells #[.int .i64 i, .int .i64 j, .int .i64 k] 102)).alloc (.cells #[.int .i64 0, .int .i64 0, .int .i64 0] 3)) = .ok (.int .i64 3) ((w2.alloc (.cells #[.int .i64 i, .int .i64 j, .int .i64 k] 102)).alloc (.cells #[.int .i64 i, .int .i64 j, .int .i64 k] 3)) := copy_out w2 3 102 [.int .i64 i, .int .i64 j, .int .i64 k] [.int .i64 0, .int .i64 0, .int .i64 0] 3 (by omega) rfl rfl (by simp [Value.oneCell'])
  go_wp2
  go_ret
  exact ⟨_, rfl, newInts_2 w2 _ [i, j, k] HB2.out.size (by simp), bAlloc (bAlloc HB2.out _) _⟩
set_option maxRecDepth 20000 in
set_option maxHeartbeats 2000000 in
theorem place_0_hit (P : Int) (a b : Option Addr) (c d : Nat) (w : World) (h1 : Ints w a []) (h2 : Ints w b []) (hP : 0 = P)  (q1 : 0 ≤ P) (q2 : P < 1)  (hB : ((0 : Int) == 0 && ((0 : Int) == 0 && ((0 : Int) == 0))) = true) :
    Calls Try.prog 65 #[.slice a 0 c, .slice b 0 d] w fun e w' => e = .returned (.int .i64 P) ∧ Below w.heap.size w w' := by
  have H1 : Hid (Ints w a []) := h1
  have H2 : Hid (Ints w b []) := h2
  have HR : Hid (∀ w, Calls Try.prog 111 #[.agg #[.int .i64 0, .int .i64 0, .int .i64 0, .int .i64 0], .agg #[.int .i64 0, .int .i64 0, .int .i64 0]] w fun e w' => e = .returned (.int .i64 P) ∧ ∃ o p, w' = (w.alloc o).alloc p) := by
    intro w
    rw [← hP]
    exact reck_0_ext   w
  have heq : ∀ w, (Op.equalIn 10000 102 (.agg #[.int .i64 0, .int .i64 0, .int .i64 0]) (.agg #[.int .i64 0, .int .i64 0, .int .i64 0])).run Try.prog w = .ok true w := fun w => by rw [eq_axes, hB]
  clear hB
  clear h1 h2 hP
  go_enter Try.func65, Try.ntmps65
  go_wp2_with fail
  refine (ext_0_ok  _ _ _ H1.out ).mono ?_
  rintro e w1 ⟨rfl, hb⟩
  have HB : Hid (Below w.heap.size w w1) := hb
  have hcp : (Builtin.copy_ #[24, 24] 3 #[.slice (some ⟨w1.heap.size + 1, 0, none⟩) 3 3, .slice b 0 d]).run Try.prog ((w1.alloc (.cells #[.int .i64 0, .int .i64 0, .int .i64 0, .int .i64 0] 104)).alloc (.cells #[.int .i64 0, .int .i64 0, .int .i64 0] 102)) = .ok (.int .i64 0) ((w1.alloc (.cells #[.int .i64 0, .int .i64 0, .int .i64 0, .int .i64 0] 104)).alloc (.cells #[.int .i64 0, .int .i64 0, .int .i64 0] 102)) := by
    have q := copy_in ((H2.out.keep hb).alloc (.cells #[.int .i64 0, .int .i64 0, .int .i64 0, .int .i64 0] 104)) 3 102 d (by simp)
    rw [show (w1.alloc (.cells #[.int .i64 0, .int .i64 0, .int .i64 0, .int .i64 0] 104)).heap.size = w1.heap.size + 1 by simp] at q
    exact q
  clear hb
  go_wp2_with fail
  refine (HR.out _).mono ?_
  rintro e w3 ⟨rfl, o, p, hw⟩
  subst w3
  go_wp2_with fail
  refine (idx_0_in  P _  q1 q2 (by omega)).mono ?_
  rintro e w2 ⟨rfl, o0, o1, o2, o3, hw⟩
  subst w2
  go_wp2
  go_ret
  exact ⟨rfl, by repeat first | exact HB.out | refine bAlloc ?_ _⟩
set_option maxRecDepth 20000 in
set_option maxHeartbeats 2000000 in
theorem place_1_hit (x : Int) (i : Int) (i' : Int) (P : Int) (a b : Option Addr) (c d : Nat) (w : World) (h1 : Ints w a [x]) (h2 : Ints w b [i]) (hP : wrap64 i = P) (x0 : 0 < x) (x1 : x ≤ 300) (q1 : 0 ≤ P) (q2 : P < x) (e0 : P % x = i') (hB : (i' == i && ((0 : Int) == 0 && ((0 : Int) == 0))) = true) :
    Calls Try.prog 65 #[.slice a 1 c, .slice b 1 d] w fun e w' => e = .returned (.int .i64 P) ∧ Below w.heap.size w w' := by
  have H1 : Hid (Ints w a [x]) := h1
  have H2 : Hid (Ints w b [i]) := h2
  have HR : Hid (∀ w, Calls Try.prog 111 #[.agg #[.int .i64 1, .int .i64 x, .int .i64 0, .int .i64 0], .agg #[.int .i64 i, .int .i64 0, .int .i64 0]] w fun e w' => e = .returned (.int .i64 P) ∧ ∃ o p, w' = (w.alloc o).alloc p) := by
    intro w
    rw [← hP]
    exact reck_1_ext x i w
  have HE0 : Hid (P % x = i') := e0
  have heq : ∀ w, (Op.equalIn 10000 102 (.agg #[.int .i64 i', .int .i64 0, .int .i64 0]) (.agg #[.int .i64 i, .int .i64 0, .int .i64 0])).run Try.prog w = .ok true w := fun w => by rw [eq_axes, hB]
  clear hB e0
  clear h1 h2 hP
  go_enter Try.func65, Try.ntmps65
  go_wp2_with fail
  refine (ext_1_ok x _ _ _ H1.out (by omega) x1).mono ?_
  rintro e w1 ⟨rfl, hb⟩
  have HB : Hid (Below w.heap.size w w1) := hb
  have hcp : (Builtin.copy_ #[24, 24] 3 #[.slice (some ⟨w1.heap.size + 1, 0, none⟩) 3 3, .slice b 1 d]).run Try.prog ((w1.alloc (.cells #[.int .i64 1, .int .i64 x, .int .i64 0, .int .i64 0] 104)).alloc (.cells #[.int .i64 0, .int .i64 0, .int .i64 0] 102)) = .ok (.int .i64 1) ((w1.alloc (.cells #[.int .i64 1, .int .i64 x, .int .i64 0, .int .i64 0] 104)).alloc (.cells #[.int .i64 i, .int .i64 0, .int .i64 0] 102)) := by
    have q := copy_in ((H2.out.keep hb).alloc (.cells #[.int .i64 1, .int .i64 x, .int .i64 0, .int .i64 0] 104)) 3 102 d (by simp)
    rw [show (w1.alloc (.cells #[.int .i64 1, .int .i64 x, .int .i64 0, .int .i64 0] 104)).heap.size = w1.heap.size + 1 by simp] at q
    exact q
  clear hb
  go_wp2_with fail
  refine (HR.out _).mono ?_
  rintro e w3 ⟨rfl, o, p, hw⟩
  subst w3
  go_wp2_with fail
  refine (idx_1_in x P _ x0 x1 q1 q2 (by omega)).mono ?_
  rintro e w2 ⟨rfl, o0, o1, o2, o3, hw⟩
  subst w2
  rw [HE0.out]
  go_wp2
  go_ret
  exact ⟨rfl, by repeat first | exact HB.out | refine bAlloc ?_ _⟩
set_option maxRecDepth 20000 in
set_option maxHeartbeats 2000000 in
theorem place_1_miss (x : Int) (i : Int) (i' : Int) (P : Int) (a b : Option Addr) (c d : Nat) (w : World) (h1 : Ints w a [x]) (h2 : Ints w b [i]) (hP : wrap64 i = P) (x0 : 0 < x) (x1 : x ≤ 300) (q1 : 0 ≤ P) (q2 : P < x) (e0 : P % x = i') (hB : (i' == i && ((0 : Int) == 0 && ((0 : Int) == 0))) = false) :
    Calls Try.prog 65 #[.slice a 1 c, .slice b 1 d] w fun e w' => e = .returned (.int .i64 (-1)) ∧ Below w.heap.size w w' := by
  have H1 : Hid (Ints w a [x]) := h1
  have H2 : Hid (Ints w b [i]) := h2
  have HR : Hid (∀ w, Calls Try.prog 111 #[.agg #[.int .i64 1, .int .i64 x, .int .i64 0, .int .i64 0], .agg #[.int .i64 i, .int .i64 0, .int .i64 0]] w fun e w' => e = .returned (.int .i64 P) ∧ ∃ o p, w' = (w.alloc o).alloc p) := by
    intro w
    rw [← hP]
    exact reck_1_ext x i w
  have HE0 : Hid (P % x = i') := e0
  have heq : ∀ w, (Op.equalIn 10000 102 (.agg #[.int .i64 i', .int .i64 0, .int .i64 0]) (.agg #[.int .i64 i, .int .i64 0, .int .i64 0])).run Try.prog w = .ok false w := fun w => by rw [eq_axes, hB]
  clear hB e0
  clear h1 h2 hP
  go_enter Try.func65, Try.ntmps65
  go_wp2_with fail
  refine (ext_1_ok x _ _ _ H1.out (by omega) x1).mono ?_
  rintro e w1 ⟨rfl, hb⟩
  have HB : Hid (Below w.heap.size w w1) := hb
  have hcp : (Builtin.copy_ #[24, 24] 3 #[.slice (some ⟨w1.heap.size + 1, 0, none⟩) 3 3, .slice b 1 d]).run Try.prog ((w1.alloc (.cells #[.int .i64 1, .int .i64 x, .int .i64 0, .int .i64 0] 104)).alloc (.cells #[.int .i64 0, .int .i64 0, .int .i64 0] 102)) = .ok (.int .i64 1) ((w1.alloc (.cells #[.int .i64 1, .int .i64 x, .int .i64 0, .int .i64 0] 104)).alloc (.cells #[.int .i64 i, .int .i64 0, .int .i64 0] 102)) := by
    have q := copy_in ((H2.out.keep hb).alloc (.cells #[.int .i64 1, .int .i64 x, .int .i64 0, .int .i64 0] 104)) 3 102 d (by simp)
    rw [show (w1.alloc (.cells #[.int .i64 1, .int .i64 x, .int .i64 0, .int .i64 0] 104)).heap.size = w1.heap.size + 1 by simp] at q
    exact q
  clear hb
  go_wp2_with fail
  refine (HR.out _).mono ?_
  rintro e w3 ⟨rfl, o, p, hw⟩
  subst w3
  go_wp2_with fail
  refine (idx_1_in x P _ x0 x1 q1 q2 (by omega)).mono ?_
  rintro e w2 ⟨rfl, o0, o1, o2, o3, hw⟩
  subst w2
  rw [HE0.out]
  go_wp2
  go_ret
  exact ⟨rfl, by repeat first | exact HB.out | refine bAlloc ?_ _⟩
set_option maxRecDepth 20000 in
set_option maxHeartbeats 2000000 in
theorem place_1_neg (x : Int) (i : Int) (P : Int) (a b : Option Addr) (c d : Nat) (w : World) (h1 : Ints w a [x]) (h2 : Ints w b [i]) (hP : wrap64 i = P) (x0 : 0 ≤ x) (x1 : x ≤ 300) (q1 : P < 0) :
    Calls Try.prog 65 #[.slice a 1 c, .slice b 1 d] w fun e w' => e = .returned (.int .i64 (-1)) ∧ Below w.heap.size w w' := by
  have H1 : Hid (Ints w a [x]) := h1
  have H2 : Hid (Ints w b [i]) := h2
  have HR : Hid (∀ w, Calls Try.prog 111 #[.agg #[.int .i64 1, .int .i64 x, .int .i64 0, .int .i64 0], .agg #[.int .i64 i, .int .i64 0, .int .i64 0]] w fun e w' => e = .returned (.int .i64 P) ∧ ∃ o p, w' = (w.alloc o).alloc p) := by
    intro w
    rw [← hP]
    exact reck_1_ext x i w
  clear h1 h2 hP
  go_enter Try.func65, Try.ntmps65
  go_wp2_with fail
  refine (ext_1_ok x _ _ _ H1.out (by omega) x1).mono ?_
  rintro e w1 ⟨rfl, hb⟩
  have HB : Hid (Below w.heap.size w w1) := hb
  have hcp : (Builtin.copy_ #[24, 24] 3 #[.slice (some ⟨w1.heap.size + 1, 0, none⟩) 3 3, .slice b 1 d]).run Try.prog ((w1.alloc (.cells #[.int .i64 1, .int .i64 x, .int .i64 0, .int .i64 0] 104)).alloc (.cells #[.int .i64 0, .int .i64 0, .int .i64 0] 102)) = .ok (.int .i64 1) ((w1.alloc (.cells #[.int .i64 1, .int .i64 x, .int .i64 0, .int .i64 0] 104)).alloc (.cells #[.int .i64 i, .int .i64 0, .int .i64 0] 102)) := by
    have q := copy_in ((H2.out.keep hb).alloc (.cells #[.int .i64 1, .int .i64 x, .int .i64 0, .int .i64 0] 104)) 3 102 d (by simp)
    rw [show (w1.alloc (.cells #[.int .i64 1, .int .i64 x, .int .i64 0, .int .i64 0] 104)).heap.size = w1.heap.size + 1 by simp] at q
    exact q
  clear hb
  go_wp2_with fail
  refine (HR.out _).mono ?_
  rintro e w3 ⟨rfl, o, p, hw⟩
  subst w3
  go_wp2_with fail
  refine (idx_1_neg x P _ q1).mono ?_
  rintro e w2 ⟨rfl, o0, o1, o2, hw⟩
  subst w2
  go_wp2
  go_ret
  exact ⟨rfl, by repeat first | exact HB.out | refine bAlloc ?_ _⟩
set_option maxRecDepth 20000 in
set_option maxHeartbeats 2000000 in
theorem place_1_much (x : Int) (i : Int) (P : Int) (a b : Option Addr) (c d : Nat) (w : World) (h1 : Ints w a [x]) (h2 : Ints w b [i]) (hP : wrap64 i = P) (x0 : 0 ≤ x) (x1 : x ≤ 300) (q1 : 0 ≤ P) (q2 : x ≤ P) :
    Calls Try.prog 65 #[.slice a 1 c, .slice b 1 d] w fun e w' => e = .returned (.int .i64 (-1)) ∧ Below w.heap.size w w' := by
  have H1 : Hid (Ints w a [x]) := h1
  have H2 : Hid (Ints w b [i]) := h2
  have HR : Hid (∀ w, Calls Try.prog 111 #[.agg #[.int .i64 1, .int .i64 x, .int .i64 0, .int .i64 0], .agg #[.int .i64 i, .int .i64 0, .int .i64 0]] w fun e w' => e = .returned (.int .i64 P) ∧ ∃ o p, w' = (w.alloc o).alloc p) := by
    intro w
    rw [← hP]
    exact reck_1_ext x i w
  clear h1 h2 hP
  go_enter Try.func65, Try.ntmps65
  go_wp2_with fail
  refine (ext_1_ok x _ _ _ H1.out (by omega) x1).mono ?_
  rintro e w1 ⟨rfl, hb⟩
  have HB : Hid (Below w.heap.size w w1) := hb
  have hcp : (Builtin.copy_ #[24, 24] 3 #[.slice (some ⟨w1.heap.size + 1, 0, none⟩) 3 3, .slice b 1 d]).run Try.prog ((w1.alloc (.cells #[.int .i64 1, .int .i64 x, .int .i64 0, .int .i64 0] 104)).alloc (.cells #[.int .i64 0, .int .i64 0, .int .i64 0] 102)) = .ok (.int .i64 1) ((w1.alloc (.cells #[.int .i64 1, .int .i64 x, .int .i64 0, .int .i64 0] 104)).alloc (.cells #[.int .i64 i, .int .i64 0, .int .i64 0] 102)) := by
    have q := copy_in ((H2.out.keep hb).alloc (.cells #[.int .i64 1, .int .i64 x, .int .i64 0, .int .i64 0] 104)) 3 102 d (by simp)
    rw [show (w1.alloc (.cells #[.int .i64 1, .int .i64 x, .int .i64 0, .int .i64 0] 104)).heap.size = w1.heap.size + 1 by simp] at q
    exact q
  clear hb
  go_wp2_with fail
  refine (HR.out _).mono ?_
  rintro e w3 ⟨rfl, o, p, hw⟩
  subst w3
  go_wp2_with fail
  refine (idx_1_much x P _ x0 x1 q1 q2).mono ?_
  rintro e w2 ⟨rfl, o0, o1, o2, o3, hw⟩
  subst w2
  go_wp2
  go_ret
  exact ⟨rfl, by repeat first | exact HB.out | refine bAlloc ?_ _⟩
set_option maxRecDepth 20000 in
set_option maxHeartbeats 2000000 in
theorem place_2_hit (x y : Int) (i j : Int) (i' j' : Int) (P : Int) (a b : Option Addr) (c d : Nat) (w : World) (h1 : Ints w a [x, y]) (h2 : Ints w b [i, j]) (hP : wrap64 (wrap64 (wrap64 i * y) + j) = P) (x0 : 0 < x) (x1 : x ≤ 300) (y0 : 0 < y) (y1 : y ≤ 300) (hp : x * y ≤ 300) (q1 : 0 ≤ P) (q2 : P < x * y) (e0 : P / y % x = i') (e1 : P % y = j') (hB : (i' == i && (j' == j && ((0 : Int) == 0))) = true) :
    Calls Try.prog 65 #[.slice a 2 c, .slice b 2 d] w fun e w' => e = .returned (.int .i64 P) ∧ Below w.heap.size w w' := by
  have H1 : Hid (Ints w a [x, y]) := h1
  have H2 : Hid (Ints w b [i, j]) := h2
  have HR : Hid (∀ w, Calls Try.prog 111 #[.agg #[.int .i64 2, .int .i64 x, .int .i64 y, .int .i64 0], .agg #[.int .i64 i, .int .i64 j, .int .i64 0]] w fun e w' => e = .returned (.int .i64 P) ∧ ∃ o p, w' = (w.alloc o).alloc p) := by
    intro w
    rw [← hP]
    exact reck_2_ext x y i j w
  have HE0 : Hid (P / y % x = i') := e0
  have HE1 : Hid (P % y = j') := e1
  have heq : ∀ w, (Op.equalIn 10000 102 (.agg #[.int .i64 i', .int .i64 j', .int .i64 0]) (.agg #[.int .i64 i, .int .i64 j, .int .i64 0])).run Try.prog w = .ok true w := fun w => by rw [eq_axes, hB]
  clear hB e0 e1
  clear h1 h2 hP
  go_enter Try.func65, Try.ntmps65
  go_wp2_with fail
  refine (ext_2_ok x y _ _ _ H1.out (by omega) x1 (by omega) y1 hp).mono ?_
  rintro e w1 ⟨rfl, hb⟩
  have HB : Hid (Below w.heap.size w w1) := hb
  have hcp : (Builtin.copy_ #[24, 24] 3 #[.slice (some ⟨w1.heap.size + 1, 0, none⟩) 3 3, .slice b 2 d]).run Try.prog ((w1.alloc (.cells #[.int .i64 2, .int .i64 x, .int .i64 y, .int .i64 0] 104)).alloc (.cells #[.int .i64 0, .int .i64 0, .int .i64 0] 102)) = .ok (.int .i64 2) ((w1.alloc (.cells #[.int .i64 2, .int .i64 x, .int .i64 y, .int .i64 0] 104)).alloc (.cells #[.int .i64 i, .int .i64 j, .int .i64 0] 102)) := by
    have q := copy_in ((H2.out.keep hb).alloc (.cells #[.int .i64 2, .int .i64 x, .int .i64 y, .int .i64 0] 104)) 3 102 d (by simp)
    rw [show (w1.alloc (.cells #[.int .i64 2, .int .i64 x, .int .i64 y, .int .i64 0] 104)).heap.size = w1.heap.size + 1 by simp] at q
    exact q
  clear hb
  go_wp2_with fail
  refine (HR.out _).mono ?_
  rintro e w3 ⟨rfl, o, p, hw⟩
  subst w3
  go_wp2_with fail
  refine (idx_2_in x y P _ x0 x1 y0 y1 q1 q2 (by omega)).mono ?_
  rintro e w2 ⟨rfl, o0, o1, o2, o3, hw⟩
  subst w2
  rw [HE0.out, HE1.out]
  go_wp2
  go_ret
  exact ⟨rfl, by repeat first | exact HB.out | refine bAlloc ?_ _⟩
set_option maxRecDepth 20000 in
set_option maxHeartbeats 2000000 in
theorem place_2_miss (x y : Int) (i j : Int) (i' j' : Int) (P : Int) (a b : Option Addr) (c d : Nat) (w : World) (h1 : Ints w a [x, y]) (h2 : Ints w b [i, j]) (hP : wrap64 (wrap64 (wrap64 i * y) + j) = P) (x0 : 0 < x) (x1 : x ≤ 300) (y0 : 0 < y) (y1 : y ≤ 300) (hp : x * y ≤ 300) (q1 : 0 ≤ P) (q2 : P < x * y) (e0 : P / y % x = i') (e1 : P % y = j') (hB : (i' == i && (j' == j && ((0 : Int) == 0))) = false) :
    Calls Try.prog 65 #[.slice a 2 c, .slice b 2 d] w fun e w' => e = .returned (.int .i64 (-1)) ∧ Below w.heap.size w w' := by
  have H1 : Hid (Ints w a [x, y]) := h1
  have H2 : Hid (Ints w b [i, j]) := h2
  have HR : Hid (∀ w, Calls Try.prog 111 #[.agg #[.int .i64 2, .int .i64 x, .int .i64 y, .int .i64 0], .agg #[.int .i64 i, .int .i64 j, .int .i64 0]] w fun e w' => e = .returned (.int .i64 P) ∧ ∃ o p, w' = (w.alloc o).alloc p) := by
    intro w
    rw [← hP]
    exact reck_2_ext x y i j w
  have HE0 : Hid (P / y % x = i') := e0
  have HE1 : Hid (P % y = j') := e1
  have heq : ∀ w, (Op.equalIn 10000 102 (.agg #[.int .i64 i', .int .i64 j', .int .i64 0]) (.agg #[.int .i64 i, .int .i64 j, .int .i64 0])).run Try.prog w = .ok false w := fun w => by rw [eq_axes, hB]
  clear hB e0 e1
  clear h1 h2 hP
  go_enter Try.func65, Try.ntmps65
  go_wp2_with fail
  refine (ext_2_ok x y _ _ _ H1.out (by omega) x1 (by omega) y1 hp).mono ?_
  rintro e w1 ⟨rfl, hb⟩
  have HB : Hid (Below w.heap.size w w1) := hb
  have hcp : (Builtin.copy_ #[24, 24] 3 #[.slice (some ⟨w1.heap.size + 1, 0, none⟩) 3 3, .slice b 2 d]).run Try.prog ((w1.alloc (.cells #[.int .i64 2, .int .i64 x, .int .i64 y, .int .i64 0] 104)).alloc (.cells #[.int .i64 0, .int .i64 0, .int .i64 0] 102)) = .ok (.int .i64 2) ((w1.alloc (.cells #[.int .i64 2, .int .i64 x, .int .i64 y, .int .i64 0] 104)).alloc (.cells #[.int .i64 i, .int .i64 j, .int .i64 0] 102)) := by
    have q := copy_in ((H2.out.keep hb).alloc (.cells #[.int .i64 2, .int .i64 x, .int .i64 y, .int .i64 0] 104)) 3 102 d (by simp)
    rw [show (w1.alloc (.cells #[.int .i64 2, .int .i64 x, .int .i64 y, .int .i64 0] 104)).heap.size = w1.heap.size + 1 by simp] at q
    exact q
  clear hb
  go_wp2_with fail
  refine (HR.out _).mono ?_
  rintro e w3 ⟨rfl, o, p, hw⟩
  subst w3
  go_wp2_with fail
  refine (idx_2_in x y P _ x0 x1 y0 y1 q1 q2 (by omega)).mono ?_
  rintro e w2 ⟨rfl, o0, o1, o2, o3, hw⟩
  subst w2
  rw [HE0.out, HE1.out]
  go_wp2
  go_ret
  exact ⟨rfl, by repeat first | exact HB.out | refine bAlloc ?_ _⟩
set_option maxRecDepth 20000 in
set_option maxHeartbeats 2000000 in
theorem place_2_neg (x y : Int) (i j : Int) (P : Int) (a b : Option Addr) (c d : Nat) (w : World) (h1 : Ints w a [x, y]) (h2 : Ints w b [i, j]) (hP : wrap64 (wrap64 (wrap64 i * y) + j) = P) (x0 : 0 ≤ x) (x1 : x ≤ 300) (y0 : 0 ≤ y) (y1 : y ≤ 300) (hp : x * y ≤ 300) (q1 : P < 0) :
    Calls Try.prog 65 #[.slice a 2 c, .slice b 2 d] w fun e w' => e = .returned (.int .i64 (-1)) ∧ Below w.heap.size w w' := by
  have H1 : Hid (Ints w a [x, y]) := h1
  have H2 : Hid (Ints w b [i, j]) := h2
  have HR : Hid (∀ w, Calls Try.prog 111 #[.agg #[.int .i64 2, .int .i64 x, .int .i64 y, .int .i64 0], .agg #[.int .i64 i, .int .i64 j, .int .i64 0]] w fun e w' => e = .returned (.int .i64 P) ∧ ∃ o p, w' = (w.alloc o).alloc p) := by
    intro w
    rw [← hP]
    exact reck_2_ext x y i j w
  clear h1 h2 hP
  go_enter Try.func65, Try.ntmps65
  go_wp2_with fail
  refine (ext_2_ok x y _ _ _ H1.out (by omega) x1 (by omega) y1 hp).mono ?_
  rintro e w1 ⟨rfl, hb⟩
  have HB : Hid (Below w.heap.size w w1) := hb
  have hcp : (Builtin.copy_ #[24, 24] 3 #[.slice (some ⟨w1.heap.size + 1, 0, none⟩) 3 3, .slice b 2 d]).run Try.prog ((w1.alloc (.cells #[.int .i64 2, .int .i64 x, .int .i64 y, .int .i64 0] 104)).alloc (.cells #[.int .i64 0, .int .i64 0, .int .i64 0] 102)) = .ok (.int .i64 2) ((w1.alloc (.cells #[.int .i64 2, .int .i64 x, .int .i64 y, .int .i64 0] 104)).alloc (.cells #[.int .i64 i, .int .i64 j, .int .i64 0] 102)) := by
    have q := copy_in ((H2.out.keep hb).alloc (.cells #[.int .i64 2, .int .i64 x, .int .i64 y, .int .i64 0] 104)) 3 102 d (by simp)
    rw [show (w1.alloc (.cells #[.int .i64 2, .int .i64 x, .int .i64 y, .int .i64 0] 104)).heap.size = w1.heap.size + 1 by simp] at q
    exact q
  clear hb
  go_wp2_with fail
  refine (HR.out _).mono ?_
  rintro e w3 ⟨rfl, o, p, hw⟩
  subst w3
  go_wp2_with fail
  refine (idx_2_neg x y P _ q1).mono ?_
  rintro e w2 ⟨rfl, o0, o1, o2, hw⟩
  subst w2
  go_wp2
  go_ret
  exact ⟨rfl, by repeat first | exact HB.out | refine bAlloc ?_ _⟩
set_option maxRecDepth 20000 in
set_option maxHeartbeats 2000000 in
theorem place_2_much (x y : Int) (i j : Int) (P : Int) (a b : Option Addr) (c d : Nat) (w : World) (h1 : Ints w a [x, y]) (h2 : Ints w b [i, j]) (hP : wrap64 (wrap64 (wrap64 i * y) + j) = P) (x0 : 0 ≤ x) (x1 : x ≤ 300) (y0 : 0 ≤ y) (y1 : y ≤ 300) (hp : x * y ≤ 300) (q1 : 0 ≤ P) (q2 : x * y ≤ P) :
    Calls Try.prog 65 #[.slice a 2 c, .slice b 2 d] w fun e w' => e = .returned (.int .i64 (-1)) ∧ Below w.heap.size w w' := by
  have H1 : Hid (Ints w a [x, y]) := h1
  have H2 : Hid (Ints w b [i, j]) := h2
  have HR : Hid (∀ w, Calls Try.prog 111 #[.agg #[.int .i64 2, .int .i64 x, .int .i64 y, .int .i64 0], .agg #[.int .i64 i, .int .i64 j, .int .i64 0]] w fun e w' => e = .returned (.int .i64 P) ∧ ∃ o p, w' = (w.alloc o).alloc p) := by
    intro w
    rw [← hP]
    exact reck_2_ext x y i j w
  clear h1 h2 hP
  go_enter Try.func65, Try.ntmps65
  go_wp2_with fail
  refine (ext_2_ok x y _ _ _ H1.out (by omega) x1 (by omega) y1 hp).mono ?_
  rintro e w1 ⟨rfl, hb⟩
  have HB : Hid (Below w.heap.size w w1) := hb
  have hcp : (Builtin.copy_ #[24, 24] 3 #[.slice (some ⟨w1.heap.size + 1, 0, none⟩) 3 3, .slice b 2 d]).run Try.prog ((w1.alloc (.cells #[.int .i64 2, .int .i64 x, .int .i64 y, .int .i64 0] 104)).alloc (.cells #[.int .i64 0, .int .i64 0, .int .i64 0] 102)) = .ok (.int .i64 2) ((w1.alloc (.cells #[.int .i64 2, .int .i64 x, .int .i64 y, .int .i64 0] 104)).alloc (.cells #[.int .i64 i, .int .i64 j, .int .i64 0] 102)) := by
    have q := copy_in ((H2.out.keep hb).alloc (.cells #[.int .i64 2, .int .i64 x, .int .i64 y, .int .i64 0] 104)) 3 102 d (by simp)
    rw [show (w1.alloc (.cells #[.int .i64 2, .int .i64 x, .int .i64 y, .int .i64 0] 104)).heap.size = w1.heap.size + 1 by simp] at q
    exact q
  clear hb
  go_wp2_with fail
  refine (HR.out _).mono ?_
  rintro e w3 ⟨rfl, o, p, hw⟩
  subst w3
  go_wp2_with fail
  refine (idx_2_much x y P _ x0 x1 y0 y1 q1 q2).mono ?_
  rintro e w2 ⟨rfl, o0, o1, o2, o3, hw⟩
  subst w2
  go_wp2
  go_ret
  exact ⟨rfl, by repeat first | exact HB.out | refine bAlloc ?_ _⟩
set_option maxRecDepth 20000 in
set_option maxHeartbeats 2000000 in
theorem place_3_hit (x y z : Int) (i j k : Int) (i' j' k' : Int) (P : Int) (a b : Option Addr) (c d : Nat) (w : World) (h1 : Ints w a [x, y, z]) (h2 : Ints w b [i, j, k]) (hP : wrap64 (wrap64 (wrap64 (wrap64 (wrap64 i * y) + j) * z) + k) = P) (x0 : 0 < x) (x1 : x ≤ 300) (y0 : 0 < y) (y1 : y ≤ 300) (z0 : 0 < z) (z1 : z ≤ 300) (hp : x * y * z ≤ 300) (q1 : 0 ≤ P) (q2 : P < x * y * z) (e0 : P / z / y % x = i') (e1 : P / z % y = j') (e2 : P % z = k') (hB : (i' == i && (j' == j && (k' == k))) = true) :
    Calls Try.prog 65 #[.slice a 3 c, .slice b 3 d] w fun e w' => e = .returned (.int .i64 P) ∧ Below w.heap.size w w' := by
  have H1 : Hid (Ints w a [x, y, z]) := h1
  have H2 : Hid (Ints w b [i, j, k]) := h2
  have HR : Hid (∀ w, Calls Try.prog 111 #[.agg #[.int .i64 3, .int .i64 x, .int .i64 y, .int .i64 z], .agg #[.int .i64 i, .int .i64 j, .int .i64 k]] w fun e w' => e = .returned (.int .i64 P) ∧ ∃ o p, w' = (w.alloc o).alloc p) := by
    intro w
    rw [← hP]
    exact reck_3_ext x y z i j k w
  have HE0 : Hid (P / z / y % x = i') := e0
  have HE1 : Hid (P / z % y = j') := e1
  have HE2 : Hid (P % z = k') := e2
  have heq : ∀ w, (Op.equalIn 10000 102 (.agg #[.int .i64 i', .int .i64 j', .int .i64 k']) (.agg #[.int .i64 i, .int .i64 j, .int .i64 k])).run Try.prog w = .ok true w := fun w => by rw [eq_axes, hB]
  clear hB e0 e1 e2
  clear h1 h2 hP
  go_enter Try.func65, Try.ntmps65
  go_wp2_with fail
  refine (ext_3_ok x y z _ _ _ H1.out (by omega) x1 (by omega) y1 (by omega) z1 hp).mono ?_
  rintro e w1 ⟨rfl, hb⟩
  have HB : Hid (Below w.heap.size w w1) := hb
  have hcp : (Builtin.copy_ #[24, 24] 3 #[.slice (some ⟨w1.heap.size + 1, 0, none⟩) 3 3, .slice b 3 d]).run Try.prog ((w1.alloc (.cells #[.int .i64 3, .int .i64 x, .int .i64 y, .int .i64 z] 104)).alloc (.cells #[.int .i64 0, .int .i64 0, .int .i64 0] 102)) = .ok (.int .i64 3) ((w1.alloc (.cells #[.int .i64 3, .int .i64 x, .int .i64 y, .int .i64 z] 104)).alloc (.cells #[.int .i64 i, .int .i64 j, .int .i64 k] 102)) := by
    have q := copy_in ((H2.out.keep hb).alloc (.cells #[.int .i64 3, .int .i64 x, .int .i64 y, .int .i64 z] 104)) 3 102 d (by simp)
    rw [show (w1.alloc (.cells #[.int .i64 3, .int .i64 x, .int .i64 y, .int .i64 z] 104)).heap.size = w1.heap.size + 1 by simp] at q
    exact q
  clear hb
  go_wp2_with fail
  refine (HR.out _).mono ?_
  rintro e w3 ⟨rfl, o, p, hw⟩
  subst w3
  go_wp2_with fail
  refine (idx_3_in x y z P _ x0 x1 y0 y1 z0 z1 q1 q2 (by omega)).mono ?_
  rintro e w2 ⟨rfl, o0, o1, o2, o3, hw⟩
  subst w2
  rw [HE0.out, HE1.out, HE2.out]
  go_wp2
  go_ret
  exact ⟨rfl, by repeat first | exact HB.out | refine bAlloc ?_ _⟩
set_option maxRecDepth 20000 in
set_option maxHeartbeats 2000000 in
theorem place_3_miss (x y z : Int) (i j k : Int) (i' j' k' : Int) (P : Int) (a b : Option Addr) (c d : Nat) (w : World) (h1 : Ints w a [x, y, z]) (h2 : Ints w b [i, j, k]) (hP : wrap64 (wrap64 (wrap64 (wrap64 (wrap64 i * y) + j) * z) + k) = P) (x0 : 0 < x) (x1 : x ≤ 300) (y0 : 0 < y) (y1 : y ≤ 300) (z0 : 0 < z) (z1 : z ≤ 300) (hp : x * y * z ≤ 300) (q1 : 0 ≤ P) (q2 : P < x * y * z) (e0 : P / z / y % x = i') (e1 : P / z % y = j') (e2 : P % z = k') (hB : (i' == i && (j' == j && (k' == k))) = false) :
    Calls Try.prog 65 #[.slice a 3 c, .slice b 3 d] w fun e w' => e = .returned (.int .i64 (-1)) ∧ Below w.heap.size w w' := by
  have H1 : Hid (Ints w a [x, y, z]) := h1
  have H2 : Hid (Ints w b [i, j, k]) := h2
  have HR : Hid (∀ w, Calls Try.prog 111 #[.agg #[.int .i64 3, .int .i64 x, .int .i64 y, .int .i64 z], .agg #[.int .i64 i, .int .i64 j, .int .i64 k]] w fun e w' => e = .returned (.int .i64 P) ∧ ∃ o p, w' = (w.alloc o).alloc p) := by
    intro w
    rw [← hP]
    exact reck_3_ext x y z i j k w
  have HE0 : Hid (P / z / y % x = i') := e0
  have HE1 : Hid (P / z % y = j') := e1
  have HE2 : Hid (P % z = k') := e2
  have heq : ∀ w, (Op.equalIn 10000 102 (.agg #[.int .i64 i', .int .i64 j', .int .i64 k']) (.agg #[.int .i64 i, .int .i64 j, .int .i64 k])).run Try.prog w = .ok false w := fun w => by rw [eq_axes, hB]
  clear hB e0 e1 e2
  clear h1 h2 hP
  go_enter Try.func65, Try.ntmps65
  go_wp2_with fail
  refine (ext_3_ok x y z _ _ _ H1.out (by omega) x1 (by omega) y1 (by omega) z1 hp).mono ?_
  rintro e w1 ⟨rfl, hb⟩
  have HB : Hid (Below w.heap.size w w1) := hb
  have hcp : (Builtin.copy_ #[24, 24] 3 #[.slice (some ⟨w1.heap.size + 1, 0, none⟩) 3 3, .slice b 3 d]).run Try.prog ((w1.alloc (.cells #[.int .i64 3, .int .i64 x, .int .i64 y, .int .i64 z] 104)).alloc (.cells #[.int .i64 0, .int .i64 0, .int .i64 0] 102)) = .ok (.int .i64 3) ((w1.alloc (.cells #[.int .i64 3, .int .i64 x, .int .i64 y, .int .i64 z] 104)).alloc (.cells #[.int .i64 i, .int .i64 j, .int .i64 k] 102)) := by
    have q := copy_in ((H2.out.keep hb).alloc (.cells #[.int .i64 3, .int .i64 x, .int .i64 y, .int .i64 z] 104)) 3 102 d (by simp)
    rw [show (w1.alloc (.cells #[.int .i64 3, .int .i64 x, .int .i64 y, .int .i64 z] 104)).heap.size = w1.heap.size + 1 by simp] at q
    exact q
  clear hb
  go_wp2_with fail
  refine (HR.out _).mono ?_
  rintro e w3 ⟨rfl, o, p, hw⟩
  subst w3
  go_wp2_with fail
  refine (idx_3_in x y z P _ x0 x1 y0 y1 z0 z1 q1 q2 (by omega)).mono ?_
  rintro e w2 ⟨rfl, o0, o1, o2, o3, hw⟩
  subst w2
  rw [HE0.out, HE1.out, HE2.out]
  go_wp2
  go_ret
  exact ⟨rfl, by repeat first | exact HB.out | refine bAlloc ?_ _⟩
set_option maxRecDepth 20000 in
set_option maxHeartbeats 2000000 in
theorem place_3_neg (x y z : Int) (i j k : Int) (P : Int) (a b : Option Addr) (c d : Nat) (w : World) (h1 : Ints w a [x, y, z]) (h2 : Ints w b [i, j, k]) (hP : wrap64 (wrap64 (wrap64 (wrap64 (wrap64 i * y) + j) * z) + k) = P) (x0 : 0 ≤ x) (x1 : x ≤ 300) (y0 : 0 ≤ y) (y1 : y ≤ 300) (z0 : 0 ≤ z) (z1 : z ≤ 300) (hp : x * y * z ≤ 300) (q1 : P < 0) :
    Calls Try.prog 65 #[.slice a 3 c, .slice b 3 d] w fun e w' => e = .returned (.int .i64 (-1)) ∧ Below w.heap.size w w' := by
  have H1 : Hid (Ints w a [x, y, z]) := h1
  have H2 : Hid (Ints w b [i, j, k]) := h2
  have HR : Hid (∀ w, Calls Try.prog 111 #[.agg #[.int .i64 3, .int .i64 x, .int .i64 y, .int .i64 z], .agg #[.int .i64 i, .int .i64 j, .int .i64 k]] w fun e w' => e = .returned (.int .i64 P) ∧ ∃ o p, w' = (w.alloc o).alloc p) := by
    intro w
    rw [← hP]
    exact reck_3_ext x y z i j k w
  clear h1 h2 hP
  go_enter Try.func65, Try.ntmps65
  go_wp2_with fail
  refine (ext_3_ok x y z _ _ _ H1.out (by omega) x1 (by omega) y1 (by omega) z1 hp).mono ?_
  rintro e w1 ⟨rfl, hb⟩
  have HB : Hid (Below w.heap.size w w1) := hb
  have hcp : (Builtin.copy_ #[24, 24] 3 #[.slice (some ⟨w1.heap.size + 1, 0, none⟩) 3 3, .slice b 3 d]).run Try.prog ((w1.alloc (.cells #[.int .i64 3, .int .i64 x, .int .i64 y, .int .i64 z] 104)).alloc (.cells #[.int .i64 0, .int .i64 0, .int .i64 0] 102)) = .ok (.int .i64 3) ((w1.alloc (.cells #[.int .i64 3, .int .i64 x, .int .i64 y, .int .i64 z] 104)).alloc (.cells #[.int .i64 i, .int .i64 j, .int .i64 k] 102)) := by
    have q := copy_in ((H2.out.keep hb).alloc (.cells #[.int .i64 3, .int .i64 x, .int .i64 y, .int .i64 z] 104)) 3 102 d (by simp)
    rw [show (w1.alloc (.cells #[.int .i64 3, .int .i64 x, .int .i64 y, .int .i64 z] 104)).heap.size = w1.heap.size + 1 by simp] at q
    exact q
  clear hb
  go_wp2_with fail
  refine (HR.out _).mono ?_
  rintro e w3 ⟨rfl, o, p, hw⟩
  subst w3
  go_wp2_with fail
  refine (idx_3_neg x y z P _ q1).mono ?_
  rintro e w2 ⟨rfl, o0, o1, o2, hw⟩
  subst w2
  go_wp2
  go_ret
  exact ⟨rfl, by repeat first | exact HB.out | refine bAlloc ?_ _⟩
set_option maxRecDepth 20000 in
set_option maxHeartbeats 2000000 in
theorem place_3_much (x y z : Int) (i j k : Int) (P : Int) (a b : Option Addr) (c d : Nat) (w : World) (h1 : Ints w a [x, y, z]) (h2 : Ints w b [i, j, k]) (hP : wrap64 (wrap64 (wrap64 (wrap64 (wrap64 i * y) + j) * z) + k) = P) (x0 : 0 ≤ x) (x1 : x ≤ 300) (y0 : 0 ≤ y) (y1 : y ≤ 300) (z0 : 0 ≤ z) (z1 : z ≤ 300) (hp : x * y * z ≤ 300) (q1 : 0 ≤ P) (q2 : x * y * z ≤ P) :
    Calls Try.prog 65 #[.slice a 3 c, .slice b 3 d] w fun e w' => e = .returned (.int .i64 (-1)) ∧ Below w.heap.size w w' := by
  have H1 : Hid (Ints w a [x, y, z]) := h1
  have H2 : Hid (Ints w b [i, j, k]) := h2
  have HR : Hid (∀ w, Calls Try.prog 111 #[.agg #[.int .i64 3, .int .i64 x, .int .i64 y, .int .i64 z], .agg #[.int .i64 i, .int .i64 j, .int .i64 k]] w fun e w' => e = .returned (.int .i64 P) ∧ ∃ o p, w' = (w.alloc o).alloc p) := by
    intro w
    rw [← hP]
    exact reck_3_ext x y z i j k w
  clear h1 h2 hP
  go_enter Try.func65, Try.ntmps65
  go_wp2_with fail
  refine (ext_3_ok x y z _ _ _ H1.out (by omega) x1 (by omega) y1 (by omega) z1 hp).mono ?_
  rintro e w1 ⟨rfl, hb⟩
  have HB : Hid (Below w.heap.size w w1) := hb
  have hcp : (Builtin.copy_ #[24, 24] 3 #[.slice (some ⟨w1.heap.size + 1, 0, none⟩) 3 3, .slice b 3 d]).run Try.prog ((w1.alloc (.cells #[.int .i64 3, .int .i64 x, .int .i64 y, .int .i64 z] 104)).alloc (.cells #[.int .i64 0, .int .i64 0, .int .i64 0] 102)) = .ok (.int .i64 3) ((w1.alloc (.cells #[.int .i64 3, .int .i64 x, .int .i64 y, .int .i64 z] 104)).alloc (.cells #[.int .i64 i, .int .i64 j, .int .i64 k] 102)) := by
    have q := copy_in ((H2.out.keep hb).alloc (.cells #[.int .i64 3, .int .i64 x, .int .i64 y, .int .i64 z] 104)) 3 102 d (by simp)
    rw [show (w1.alloc (.cells #[.int .i64 3, .int .i64 x, .int .i64 y, .int .i64 z] 104)).heap.size = w1.heap.size + 1 by simp] at q
    exact q
  clear hb
  go_wp2_with fail
  refine (HR.out _).mono ?_
  rintro e w3 ⟨rfl, o, p, hw⟩
  subst w3
  go_wp2_with fail
  refine (idx_3_much x y z P _ x0 x1 y0 y1 z0 z1 q1 q2).mono ?_
  rintro e w2 ⟨rfl, o0, o1, o2, o3, hw⟩
  subst w2
  go_wp2
  go_ret
  exact ⟨rfl, by repeat first | exact HB.out | refine bAlloc ?_ _⟩
end Go.Proofs.Ytcpgdhffemecbaa
namespace Go.Proofs.Ytcpgdhffemecbaa
open Go.RowKit
set_option linter.unusedVariables false
theorem sizeV_0 : sizeV [] = 1 := by simp [sizeV, prodV]
theorem sizeV_1 (x : Int) : sizeV [x] = if 0 ≤ x ∧ x ≤ 300 then (if 300 < x then -1 else x) else -1 := by simp [sizeV, dimOk, prodV]
theorem sizeV_2 (x y : Int) : sizeV [x, y] = if (0 ≤ x ∧ x ≤ 300) ∧ 0 ≤ y ∧ y ≤ 300 then (if 300 < x * y then -1 else x * y) else -1 := by simp [sizeV, dimOk, prodV]
theorem sizeV_3 (x y z : Int) : sizeV [x, y, z] = if (0 ≤ x ∧ x ≤ 300) ∧ (0 ≤ y ∧ y ≤ 300) ∧ 0 ≤ z ∧ z ≤ 300 then (if 300 < x * y * z then -1 else x * y * z) else -1 := by simp [sizeV, dimOk, prodV]
theorem dim3 (x : Int) : x < 0 ∨ (0 ≤ x ∧ 300 < x) ∨ (0 ≤ x ∧ x ≤ 300) := by omega
/-- The numbers of a shape by value. -/
def Ext (l : List Int) (n : Nat) (x y z : Int) : Prop := n = l.length ∧ x = l.getD 0 0 ∧ y = l.getD 1 0 ∧ z = l.getD 2 0
theorem ext_bad {l : List Int} {a : Option Addr} {w : World} {c : Nat} (hs : sizeV l < 0)
    (h : Calls Try.prog 92 #[.slice a l.length c] w fun e w' => e = .returned (.tuple #[.agg #[.int .i64 0, .int .i64 0, .int .i64 0, .int .i64 0], .bool false]) ∧ Below w.heap.size w w') :
    Calls Try.prog 92 #[.slice a l.length c] w fun e w' => ∃ (n : Nat) (x y z : Int), e = .returned (.tuple #[.agg #[.int .i64 n, .int .i64 x, .int .i64 y, .int .i64 z], .bool (decide (0 ≤ sizeV l))]) ∧ (0 ≤ sizeV l → Ext l n x y z) ∧ Below w.heap.size w w' := by
  refine h.mono ?_
  rintro e w' ⟨rfl, hb⟩
  exact ⟨0, 0, 0, 0, by rw [show decide (0 ≤ sizeV l) = false by simp; omega]; rfl, fun h => by omega, hb⟩
theorem ext_good {l : List Int} {a : Option Addr} {w : World} {c n : Nat} {x y z : Int} (hs : 0 ≤ sizeV l) (he : Ext l n x y z)
    (h : Calls Try.prog 92 #[.slice a l.length c] w fun e w' => e = .returned (.tuple #[.agg #[.int .i64 n, .int .i64 x, .int .i64 y, .int .i64 z], .bool true]) ∧ Below w.heap.size w w') :
    Calls Try.prog 92 #[.slice a l.length c] w fun e w' => ∃ (n : Nat) (x y z : Int), e = .returned (.tuple #[.agg #[.int .i64 n, .int .i64 x, .int .i64 y, .int .i64 z], .bool (decide (0 ≤ sizeV l))]) ∧ (0 ≤ sizeV l → Ext l n x y z) ∧ Below w.heap.size w w' := by
  refine h.mono ?_
  rintro e w' ⟨rfl, hb⟩
  exact ⟨n, x, y, z, by rw [show decide (0 ≤ sizeV l) = true by simpa using hs], fun _ => he, hb⟩
/-- A list as a shape by value. -/
theorem ext_impl {l : List Int} {a : Option Addr} {w : World} (c : Nat) (h1 : Ints w a l) :
    Calls Try.prog 92 #[.slice a l.length c] w fun e w' => ∃ (n : Nat) (x y z : Int), e = .returned (.tuple #[.agg #[.int .i64 n, .int .i64 x, .int .i64 y, .int .i64 z], .bool (decide (0 ≤ sizeV l))]) ∧ (0 ≤ sizeV l → Ext l n x y z) ∧ Below w.heap.size w w' := by
  by_cases hl : 3 < l.length
  · exact ext_bad (by unfold sizeV; rw [if_pos hl]; decide) (ext_long l a c w hl)
  · rcases len3 (by omega : l.length ≤ 3) with rfl | ⟨x, rfl⟩ | ⟨x, y, rfl⟩ | ⟨x, y, z, rfl⟩
    · exact ext_good (n := 0) (x := 0) (y := 0) (z := 0) (by rw [sizeV_0]; decide) ⟨rfl, rfl, rfl, rfl⟩ (ext_0_ok a c w h1)
    · rcases dim3 x with hb | ⟨hb0, hb⟩ | ⟨x0, x1⟩
      · exact ext_bad (by rw [sizeV_1, if_neg (by omega)]; decide) (ext_1_neg0 x a c w h1  hb)
      · exact ext_bad (by rw [sizeV_1, if_neg (by omega)]; decide) (ext_1_great0 x a c w h1  hb0 hb)
      exact ext_good (n := 1) (x := x) (y := 0) (z := 0) (by rw [sizeV_1, if_pos (by omega), if_neg (by omega)]; exact x0) ⟨rfl, rfl, rfl, rfl⟩ (ext_1_ok x a c w h1 x0 x1)
    · rcases dim3 x with hb | ⟨hb0, hb⟩ | ⟨x0, x1⟩
      · exact ext_bad (by rw [sizeV_2, if_neg (by omega)]; decide) (ext_2_neg0 x y a c w h1  hb)
      · exact ext_bad (by rw [sizeV_2, if_neg (by omega)]; decide) (ext_2_great0 x y a c w h1  hb0 hb)
      rcases dim3 y with hb | ⟨hb0, hb⟩ | ⟨y0, y1⟩
      · exact ext_bad (by rw [sizeV_2, if_neg (by omega)]; decide) (ext_2_neg1 x y a c w h1 x0 x1 hb)
      · exact ext_bad (by rw [sizeV_2, if_neg (by omega)]; decide) (ext_2_great1 x y a c w h1 x0 x1 hb0 hb)
      by_cases hp : 300 < x * y
      · exact ext_bad (by rw [sizeV_2, if_pos (by omega), if_pos hp]; decide) (ext_2_much x y a c w h1 x0 x1 y0 y1 hp)
      exact ext_good (n := 2) (x := x) (y := y) (z := 0) (by rw [sizeV_2, if_pos (by omega), if_neg (by omega)]; exact Int.mul_nonneg x0 y0) ⟨rfl, rfl, rfl, rfl⟩ (ext_2_ok x y a c w h1 x0 x1 y0 y1 (by omega))
    · rcases dim3 x with hb | ⟨hb0, hb⟩ | ⟨x0, x1⟩
      · exact ext_bad (by rw [sizeV_3, if_neg (by omega)]; decide) (ext_3_neg0 x y z a c w h1  hb)
      · exact ext_bad (by rw [sizeV_3, if_neg (by omega)]; decide) (ext_3_great0 x y z a c w h1  hb0 hb)
      rcases dim3 y with hb | ⟨hb0, hb⟩ | ⟨y0, y1⟩
      · exact ext_bad (by rw [sizeV_3, if_neg (by omega)]; decide) (ext_3_neg1 x y z a c w h1 x0 x1 hb)
      · exact ext_bad (by rw [sizeV_3, if_neg (by omega)]; decide) (ext_3_great1 x y z a c w h1 x0 x1 hb0 hb)
      rcases dim3 z with hb | ⟨hb0, hb⟩ | ⟨z0, z1⟩
      · exact ext_bad (by rw [sizeV_3, if_neg (by omega)]; decide) (ext_3_neg2 x y z a c w h1 x0 x1 y0 y1 hb)
      · exact ext_bad (by rw [sizeV_3, if_neg (by omega)]; decide) (ext_3_great2 x y z a c w h1 x0 x1 y0 y1 hb0 hb)
      by_cases hp : 300 < x * y * z
      · exact ext_bad (by rw [sizeV_3, if_pos (by omega), if_pos hp]; decide) (ext_3_much x y z a c w h1 x0 x1 y0 y1 z0 z1 hp)
      exact ext_good (n := 3) (x := x) (y := y) (z := z) (by rw [sizeV_3, if_pos (by omega), if_neg (by omega)]; exact Int.mul_nonneg (Int.mul_nonneg x0 y0) z0) ⟨rfl, rfl, rfl, rfl⟩ (ext_3_ok x y z a c w h1 x0 x1 y0 y1 z0 z1 (by omega))
/-- Its size. -/
theorem size_ext {l : List Int} {n : Nat} {x y z : Int} (hs : 0 ≤ sizeV l) (he : Ext l n x y z) (w : World) :
    Calls Try.prog 109 #[.agg #[.int .i64 n, .int .i64 x, .int .i64 y, .int .i64 z]] w fun e w' => e = .returned (.int .i64 (sizeV l)) ∧ ∃ o, w' = w.alloc o := by
  obtain ⟨rfl, rfl, rfl, rfl⟩ := he
  obtain ⟨k1, k2, k3, k4⟩ := sizeV_ok hs
  rw [k4]
  rcases len3 k1 with rfl | ⟨x, rfl⟩ | ⟨x, y, rfl⟩ | ⟨x, y, z, rfl⟩
  · exact (size_0_ext w).mono fun e w' h => ⟨h.1, _, h.2⟩
  · simp only [List.all_cons, List.all_nil, Bool.and_true] at k2
    have dx := dimOk_bd k2
    rw [prod1]
    exact (size_1_ext x w dx.1 dx.2).mono fun e w' h => ⟨h.1, _, h.2⟩
  · simp only [List.all_cons, List.all_nil, Bool.and_true, Bool.and_eq_true] at k2
    have dx := dimOk_bd k2.1
    have dy := dimOk_bd k2.2
    rw [prod2]
    exact (size_2_ext x y w dx.1 dx.2 dy.1 dy.2).mono fun e w' h => ⟨h.1, _, h.2⟩
  · simp only [List.all_cons, List.all_nil, Bool.and_true, Bool.and_eq_true] at k2
    have dx := dimOk_bd k2.1
    have dy := dimOk_bd k2.2.1
    have dz := dimOk_bd k2.2.2
    rw [prod3]
    exact (size_3_ext x y z w dx.1 dx.2 dy.1 dy.2 dz.1 dz.2).mono fun e w' h => ⟨h.1, _, h.2⟩
theorem sizeV_neg {l : List Int} (h : ¬ 0 ≤ sizeV l) : sizeV l = -1 := by have := sizeV_bd l; omega
set_option maxRecDepth 20000 in
set_option maxHeartbeats 1000000 in
/-- SizeOf. -/
theorem size_impl {l : List Int} {a : Option Addr} {w : World} (c : Nat) (h1 : Ints w a l) :
    Calls Try.prog 60 #[.slice a l.length c] w fun e w' => e = .returned (.int .i64 (sizeV l)) ∧ Below w.heap.size w w' := by
  have H1 : Hid (Ints w a l) := h1
  clear h1
  by_cases hs : 0 ≤ sizeV l
  · have hs' : decide (0 ≤ sizeV l) = true := by simpa using hs
    have HS : Hid (0 ≤ sizeV l) := hs
    clear hs
    go_enter Try.func60, Try.ntmps60
    go_wp2_with fail
    refine (ext_impl _ H1.out).mono ?_
    rintro e w1 ⟨n, x, y, z, rfl, he, hb⟩
    have HE : Hid (Ext l n x y z) := he HS.out
    have HB : Hid (Below w.heap.size w w1) := hb
    clear he hb
    go_wp2_with fail
    refine (size_ext HS.out HE.out _).mono ?_
    rintro e w2 ⟨rfl, o, hw⟩
    subst w2
    go_wp2
    go_ret
    exact ⟨rfl, bAlloc (bAlloc HB.out _) _⟩
  · have hs' : decide (0 ≤ sizeV l) = false := by simpa using hs
    have HV : Hid (sizeV l = -1) := sizeV_neg hs
    clear hs
    go_enter Try.func60, Try.ntmps60
    go_wp2_with fail
    refine (ext_impl _ H1.out).mono ?_
    rintro e w1 ⟨n, x, y, z, rfl, he, hb⟩
    have HB : Hid (Below w.heap.size w w1) := hb
    clear he hb
    go_wp2
    go_ret
    exact ⟨ret_num HV.out.symm, bAlloc HB.out _⟩
set_option maxRecDepth 20000 in
set_option maxHeartbeats 1000000 in
/-- ShapeOk. -/
theorem ok_impl {l : List Int} {a : Option Addr} {w : World} (c : Nat) (h1 : Ints w a l) :
    Calls Try.prog 51 #[.slice a l.length c] w fun e w' => e = .returned (.bool (decide (0 ≤ sizeV l))) ∧ Below w.heap.size w w' := by
  have H1 : Hid (Ints w a l) := h1
  clear h1
  generalize hq : decide (0 ≤ sizeV l) = q
  have HQ : Hid (decide (0 ≤ sizeV l) = q) := hq
  clear hq
  go_enter Try.func51, Try.ntmps51
  go_wp2_with fail
  refine (ext_impl _ H1.out).mono ?_
  rintro e w1 ⟨n, x, y, z, rfl, he, hb⟩
  have HB : Hid (Below w.heap.size w w1) := hb
  clear he hb
  rw [HQ.out]
  go_wp2
  go_ret
  exact ⟨rfl, bAlloc HB.out _⟩
/-- No index where there is no place. -/
theorem idx_out {l : List Int} {n : Nat} {x y z : Int} (hs : 0 ≤ sizeV l) (he : Ext l n x y z) (p : Int) (hp : p < 0 ∨ sizeV l ≤ p) (w : World) :
    Calls Try.prog 110 #[.agg #[.int .i64 n, .int .i64 x, .int .i64 y, .int .i64 z], .int .i64 p] w fun e w' => e = .returned (.tuple #[.agg #[.int .i64 0, .int .i64 0, .int .i64 0], .bool false]) ∧ Below w.heap.size w w' := by
  obtain ⟨rfl, rfl, rfl, rfl⟩ := he
  obtain ⟨k1, k2, k3, k4⟩ := sizeV_ok hs
  rw [k4] at hp
  by_cases h0 : p < 0
  · rcases len3 k1 with rfl | ⟨x, rfl⟩ | ⟨x, y, rfl⟩ | ⟨x, y, z, rfl⟩
    · exact (idx_0_neg p w h0).mono fun e w' ⟨h, o0, o1, o2, hw⟩ => ⟨h, hw ▸ bAlloc (bAlloc (bAlloc (Below.refl _ _) _) _) _⟩
    · exact (idx_1_neg x p w h0).mono fun e w' ⟨h, o0, o1, o2, hw⟩ => ⟨h, hw ▸ bAlloc (bAlloc (bAlloc (Below.refl _ _) _) _) _⟩
    · exact (idx_2_neg x y p w h0).mono fun e w' ⟨h, o0, o1, o2, hw⟩ => ⟨h, hw ▸ bAlloc (bAlloc (bAlloc (Below.refl _ _) _) _) _⟩
    · exact (idx_3_neg x y z p w h0).mono fun e w' ⟨h, o0, o1, o2, hw⟩ => ⟨h, hw ▸ bAlloc (bAlloc (bAlloc (Below.refl _ _) _) _) _⟩
  · have q1 : 0 ≤ p := by omega
    have q2 : prodV l ≤ p := by omega
    rcases len3 k1 with rfl | ⟨x, rfl⟩ | ⟨x, y, rfl⟩ | ⟨x, y, z, rfl⟩
    · exact (idx_0_much p w q1 q2).mono fun e w' ⟨h, o0, o1, o2, o3, hw⟩ => ⟨h, hw ▸ bAlloc (bAlloc (bAlloc (bAlloc (Below.refl _ _) _) _) _) _⟩
    · simp only [List.all_cons, List.all_nil, Bool.and_true] at k2
      have dx := dimOk_bd k2
      rw [prod1] at q2
      exact (idx_1_much x p w dx.1 dx.2 q1 q2).mono fun e w' ⟨h, o0, o1, o2, o3, hw⟩ => ⟨h, hw ▸ bAlloc (bAlloc (bAlloc (bAlloc (Below.refl _ _) _) _) _) _⟩
    · simp only [List.all_cons, List.all_nil, Bool.and_true, Bool.and_eq_true] at k2
      have dx := dimOk_bd k2.1
      have dy := dimOk_bd k2.2
      rw [prod2] at q2
      exact (idx_2_much x y p w dx.1 dx.2 dy.1 dy.2 q1 q2).mono fun e w' ⟨h, o0, o1, o2, o3, hw⟩ => ⟨h, hw ▸ bAlloc (bAlloc (bAlloc (bAlloc (Below.refl _ _) _) _) _) _⟩
    · simp only [List.all_cons, List.all_nil, Bool.and_true, Bool.and_eq_true] at k2
      have dx := dimOk_bd k2.1
      have dy := dimOk_bd k2.2.1
      have dz := dimOk_bd k2.2.2
      rw [prod3] at q2
      exact (idx_3_much x y z p w dx.1 dx.2 dy.1 dy.2 dz.1 dz.2 q1 q2).mono fun e w' ⟨h, o0, o1, o2, o3, hw⟩ => ⟨h, hw ▸ bAlloc (bAlloc (bAlloc (bAlloc (Below.refl _ _) _) _) _) _⟩
theorem newInts_nil (B : Nat) (w : World) : NewInts B w (.slice none 0 0) [] := ⟨rfl, .inl ⟨rfl, rfl⟩⟩
set_option maxRecDepth 20000 in
set_option maxHeartbeats 1000000 in
theorem index_bad_impl {s : List Int} {a : Option Addr} {w : World} (p : Int) (c : Nat) (h1 : Ints w a s) (hb : sizeV s < 0 ∨ p < 0 ∨ sizeV s - 1 < p) :
    Calls Try.prog 64 #[.slice a s.length c, .int .i64 p] w fun e w' => ∃ v, e = .returned v ∧ NewInts w.heap.size w' v [] ∧ Below w.heap.size w w' := by
  have H1 : Hid (Ints w a s) := h1
  clear h1
  by_cases hs : 0 ≤ sizeV s
  · have hs' : decide (0 ≤ sizeV s) = true := by simpa using hs
    have HS : Hid (0 ≤ sizeV s) := hs
    have HP : Hid (p < 0 ∨ sizeV s ≤ p) := by show _ ∨ _; omega
    clear hs hb
    go_enter Try.func64, Try.ntmps64
    go_wp2_with fail
    refine (ext_impl _ H1.out).mono ?_
    rintro e w1 ⟨n, x, y, z, rfl, he, hb⟩
    have HE : Hid (Ext s n x y z) := he HS.out
    have HB : Hid (Below w.heap.size w w1) := hb
    clear he hb
    go_wp2_with fail
    refine (idx_out HS.out HE.out p HP.out _).mono ?_
    rintro e w2 ⟨rfl, hb⟩
    have HB2 : Hid (Below w.heap.size w w2) := bTrans (bAlloc HB.out _) hb
    clear hb
    go_wp2
    go_ret
    exact ⟨_, rfl, newInts_nil _ _, bAlloc HB2.out _⟩
  · have hs' : decide (0 ≤ sizeV s) = false := by simpa using hs
    clear hs hb
    go_enter Try.func64, Try.ntmps64
    go_wp2_with fail
    refine (ext_impl _ H1.out).mono ?_
    rintro e w1 ⟨n, x, y, z, rfl, he, hb⟩
    have HB : Hid (Below w.heap.size w w1) := hb
    clear he hb
    go_wp2
    go_ret
    exact ⟨_, rfl, newInts_nil _ _, bAlloc HB.out _⟩
/-- IndexOf, whatever list and place it is given: a list in new memory. -/
theorem index_impl {s : List Int} {a : Option Addr} {w : World} (p : Int) (c : Nat) (h1 : Ints w a s) :
    Calls Try.prog 64 #[.slice a s.length c, .int .i64 p] w fun e w' => ∃ v, e = .returned v ∧ NewInts w.heap.size w' v (indexV s p) ∧ Below w.heap.size w w' := by
  by_cases hb : sizeV s < 0 ∨ p < 0 ∨ sizeV s - 1 < p
  · have e : indexV s p = [] := by unfold indexV; rw [if_pos hb]
    rw [e]
    exact index_bad_impl p c h1 hb
  · have e : indexV s p = idx s p := by unfold indexV; rw [if_neg hb]
    rw [e]
    have hs : 0 ≤ sizeV s := by omega
    obtain ⟨k1, k2, k3, k4⟩ := sizeV_ok hs
    rcases len3 k1 with rfl | ⟨x, rfl⟩ | ⟨x, y, rfl⟩ | ⟨x, y, z, rfl⟩
    · have k5 := sizeV_0
      exact index_0_impl p a c w h1 (by omega) (by omega)
    · simp only [List.all_cons, List.all_nil, Bool.and_true] at k2
      have dx := dimOk_bd k2
      rw [prod1] at k3 k4
      exact index_1_impl x _ p a c w h1 (by omega) dx.2 (by omega) (by omega) rfl
    · simp only [List.all_cons, List.all_nil, Bool.and_true, Bool.and_eq_true] at k2
      have dx := dimOk_bd k2.1
      have dy := dimOk_bd k2.2
      rw [prod2] at k3 k4
      have q := pos_of_mul dx.1 dy.1 (by omega)
      exact index_2_impl x y _ _ p a c w h1 q.1 dx.2 q.2 dy.2 k3 (by omega) (by omega) rfl rfl
    · simp only [List.all_cons, List.all_nil, Bool.and_true, Bool.and_eq_true] at k2
      have dx := dimOk_bd k2.1
      have dy := dimOk_bd k2.2.1
      have dz := dimOk_bd k2.2.2
      rw [prod3] at k3 k4
      have q := pos_of_mul (Int.mul_nonneg dx.1 dy.1) dz.1 (by omega)
      have q' := pos_of_mul dx.1 dy.1 q.1
      exact index_3_impl x y z _ _ _ p a c w h1 q'.1 dx.2 q'.2 dy.2 q.2 dz.2 k3 (by omega) (by omega) rfl rfl rfl
set_option maxRecDepth 20000 in
set_option maxHeartbeats 1000000 in
theorem place_bad_impl {s i : List Int} {a b : Option Addr} {w : World} (c d : Nat) (h1 : Ints w a s) (hb : sizeV s < 0 ∨ i.length ≠ s.length) :
    Calls Try.prog 65 #[.slice a s.length c, .slice b i.length d] w fun e w' => e = .returned (.int .i64 (-1)) ∧ Below w.heap.size w w' := by
  have H1 : Hid (Ints w a s) := h1
  clear h1
  by_cases hs : 0 ≤ sizeV s
  · have hs' : decide (0 ≤ sizeV s) = true := by simpa using hs
    have HS : Hid (0 ≤ sizeV s) := hs
    have HN : Hid (i.length ≠ s.length) := by
      rcases hb with hb | hb
      · omega
      · exact hb
    clear hs hb
    go_enter Try.func65, Try.ntmps65
    go_wp2_with fail
    refine (ext_impl _ H1.out).mono ?_
    rintro e w1 ⟨n, x, y, z, rfl, he, hb⟩
    have hn : ((i.length : Int) != (n : Int)) = true := by
      have h1 := (he HS.out).1
      have h2 := HN.out
      simp; omega
    have HB : Hid (Below w.heap.size w w1) := hb
    clear he hb
    go_wp2
    go_ret
    exact ⟨rfl, bAlloc HB.out _⟩
  · have hs' : decide (0 ≤ sizeV s) = false := by simpa using hs
    clear hs hb
    go_enter Try.func65, Try.ntmps65
    go_wp2_with fail
    refine (ext_impl _ H1.out).mono ?_
    rintro e w1 ⟨n, x, y, z, rfl, he, hb⟩
    have HB : Hid (Below w.heap.size w w1) := hb
    clear he hb
    go_wp2
    go_ret
    exact ⟨rfl, bAlloc HB.out _⟩
end Go.Proofs.Ytcpgdhffemecbaa
namespace Go.Proofs.Ytcpgdhffemecbaa
open Go.RowKit
set_option linter.unusedVariables false
set_option linter.unusedSimpArgs false
theorem ints_tail {w : World} {b off : Nat} {l : List Int} (m : Nat) (h : Ints w (some ⟨b, off, none⟩) l) : Ints w (some ⟨b, off + m, none⟩) (l.drop m) := by
  rcases h with rfl | ⟨b', off', e, hb, hc⟩
  · exact .inl (by simp)
  · cases e
    refine .inr ⟨b, off + m, rfl, hb, fun k hk => ?_⟩
    have := hc (m + k) (by simp at hk; omega)
    rw [Nat.add_assoc, this]
    simp
/-- A list from one number on, and between two, whatever its memory. -/
theorem run_from {a : Option Addr} {n c M : Nat} (hM : M ≤ n) (hc : n ≤ c) (W : World) : (Instr.slice 24 (.slice a n c) (some (.int .i64 (M : Int))) none none).run Try.prog W = .ok (.slice (if c - M = 0 then a else a.map (·.add (M * 1))) (n - M) (c - M)) W := by
  have hs : (sizeOf 3).run Try.prog W = .ok 1 W := by kernel_rfl
  have he : Try.prog.elem 24 = 3 := by kernel_rfl
  rw [run_slice_l (P := Try.prog) (w := W) 24 a n c (by rw [he]; exact Try.underlying24) .i64 (M : Int) (by omega) (by omega), he, hs]
  have e : (c = M) = (c - M = 0) := by apply propext; omega
  simp [Result.andThen, sliced, e]
/-- What a copy makes of a list: m numbers of e from place k on. -/
def paste (l : List Int) (k : Nat) (e : List Int) (m : Nat) : List Int := l.take k ++ e.take m ++ l.drop (k + m)
theorem paste_zero (l : List Int) (k : Nat) (e : List Int) : paste l k e 0 = l := by simp [paste]
theorem paste_length {l e : List Int} {k m : Nat} (h : k + m ≤ l.length) (hm : m ≤ e.length) : (paste l k e m).length = l.length := by simp [paste]; omega
theorem paste_at {l e : List Int} {k m : Nat} (h : k + m ≤ l.length) (hm : m ≤ e.length) (i : Nat) : (paste l k e m).getD i 0 = if i < k then l.getD i 0 else if i < k + m then e.getD (i - k) 0 else l.getD i 0 := by
  have lk : (l.take k).length = k := by simp; omega
  have lm : (e.take m).length = m := by simp; omega
  unfold paste
  simp only [List.getD_eq_getElem?_getD, List.append_assoc]
  by_cases h1 : i < k
  · rw [if_pos h1, List.getElem?_append_left (by omega), List.getElem?_take_of_lt h1]
  · rw [if_neg h1, List.getElem?_append_right (by omega), lk]
    by_cases h2 : i < k + m
    · rw [if_pos h2, List.getElem?_append_left (by omega), List.getElem?_take_of_lt (by omega)]
    · rw [if_neg h2, List.getElem?_append_right (by omega), lm, List.getElem?_drop]
      congr 2
      omega
theorem copy_paste {w : World} {g : Nat} {l e : List Int} {a : Option Addr} {k n : Nat} (h : OwnInts w g l) (hs : Ints w a e) (hfit : k + min e.length n ≤ l.length) (ty : TypeId) (dC c : Nat) :
    (Builtin.copy_ #[24, 24] ty #[.slice (some ⟨g, k, none⟩) n dC, .slice a e.length c]).run Try.prog w = .ok (.int .i64 ((min e.length n : Nat) : Int)) (w.setRow g (vals (paste l k e (min e.length n)))) := by
  by_cases h0 : min e.length n = 0
  · rw [h0, paste_zero, setRow_self w g (vals l) _ _ h]
    exact run_copy_none (P := Try.prog) _ 24 24 ty 3 _ _ _ _ _ _ Try.underlying24 int_size h0
  · rcases hs with rfl | ⟨b, off, rfl, hb, hc⟩
    · simp at h0
    · have hc' : ∀ j, j < (e.take (min e.length n)).length → w.cell? ⟨b, off + j, none⟩ = some (.int .i64 ((e.take (min e.length n)).getD j 0)) := by
        intro j hj
        have hj' : j < min e.length n := by simp at hj; omega
        rw [hc j (by omega)]
        simp only [List.getD_eq_getElem?_getD, List.getElem?_take_of_lt hj']
      have q := run_copy_row Try.prog w 24 24 ty 3 g k n dC ⟨b, off, none⟩ e.length c (vals l) 3 ((e.take (min e.length n)).map (Value.int .i64)) Try.underlying24 int_size h (by simp) (ints_src hc') (by simp [vals]; omega) (by intro v hv; obtain ⟨x, _, rfl⟩ := List.mem_map.1 hv; rfl)
      rw [q, List.length_map, List.length_take, Nat.min_eq_left (Nat.min_le_left _ _)]
      simp [paste, vals, goInt]
theorem OwnInts.setRow {w : World} {g : Nat} {l : List Int} (h : OwnInts w g l) (l' : List Int) : OwnInts (w.setRow g (vals l')) g l' := setRow_heap w g _ _ _ _ h
end Go.Proofs.Ytcpgdhffemecbaa
namespace Go.Proofs.Ytcpgdhffemecbaa
open Go.RowKit
set_option linter.unusedVariables false
set_option linter.unusedSimpArgs false
set_option maxRecDepth 20000 in
set_option maxHeartbeats 1000000 in
/-- allRight. -/
theorem allRight_impl {d : List Int} {b : Option Addr} {w : World} (e : Nat) (h : Ints w b d) (hd : d.length ≤ 1048576) :
    Calls Try.prog 61 #[.slice b d.length e] w fun e w' => e = .returned (.bool (d.all ok)) ∧ w' = w := by
  have HJ : Hid (Ints w b d) := h
  clear h
  go_enter Try.func61, Try.ntmps61
  go_wp2
  go_loopw [7] (fun i w' => ∃ k : Nat, k ≤ d.length ∧ i = .int .i64 k ∧ (d.take k).all ok = true ∧ w' = w) (fun i _ => d.length - (intOf i).toNat)
  case atStart => exact ⟨0, by omega, rfl, by simp, rfl⟩
  case round =>
    obtain ⟨k, hk, rfl, ht, rfl⟩ := hrel
    have HT : Hid ((d.take k).all ok = true) := ht
    clear ht
    by_cases hlt : (k : Int) < (d.length : Int)
    · have L : k < d.length := by omega
      obtain ⟨b1, o1, rfl, _, c1⟩ := HJ.out.at L
      have Q : Hid ((d.take (k + 1)).all ok = ((d.take k).all ok && ok (d.getD k 0))) := by show _ = _; rw [take_snoc L, all_snocN]
      have QB : Hid (ok (d.getD k 0) = false → d.all ok = false) := fun h => by
        rw [List.all_eq_false]
        exact ⟨d.getD k 0, by simp [L], by rw [h]; decide⟩
      clear L
      generalize d.getD k 0 = x at c1 Q QB
      by_cases hx : ok x = true
      · have HT' : Hid ((d.take (k + 1)).all ok = true) := by show _ = _; rw [Q.out, HT.out, hx]; rfl
        clear Q QB
        go_wp2_with fail
        refine (numOk_impl x _).mono ?_
        rintro r w' ⟨rfl, hw⟩
        subst w'
        go_wp2
        go_roundw
        case rel => exact ⟨k + 1, by omega, by go_num, HT'.out, by first | trivial | rfl⟩
        case measure => simp [intOf]; omega
      · have hx : ok x = false := by simpa using hx
        have HV' : Hid (d.all ok = false) := QB.out hx
        clear Q QB
        go_wp2_with fail
        refine (numOk_impl x _).mono ?_
        rintro r w' ⟨rfl, hw⟩
        subst w'
        go_wp2
        go_ret
        exact ⟨by rw [HV'.out]; rfl, rfl⟩
    · have HV' : Hid (d.all ok = true) := by
        have h := HT.out
        show _ = _
        rw [List.take_of_length_le (by omega)] at h
        exact h
      go_wp2
      go_ret
      exact ⟨by rw [HV'.out]; rfl, rfl⟩
end Go.Proofs.Ytcpgdhffemecbaa
namespace Go.Proofs.Ytcpgdhffemecbaa
open Go.RowKit
set_option linter.unusedVariables false
set_option linter.unusedSimpArgs false
set_option maxRecDepth 20000 in
/-- Out of a list into a new one of its length. -/
theorem copy_all {w : World} {a : Option Addr} {l : List Int} (h1 : Ints w a l) (ty : TypeId) (d : Nat) (Z : Array Value) (hZ : Z.size = l.length) :
    (Builtin.copy_ #[24, 24] ty #[.slice (some ⟨w.heap.size, 0, none⟩) l.length l.length, .slice a l.length d]).run Try.prog (w.alloc (.cells Z 3)) =
      .ok (.int .i64 l.length) (w.alloc (.cells (vals l) 3)) := by
  by_cases h0 : l.length = 0
  · obtain rfl : l = [] := List.eq_nil_of_length_eq_zero h0
    have e : Z = vals [] := by simp at hZ; simp [vals, hZ]
    rw [e]
    exact run_copy_none (P := Try.prog) _ 24 24 ty 3 _ _ _ _ _ _ Try.underlying24 int_size rfl
  · rcases h1 with rfl | ⟨b, off, rfl, hb, hc⟩
    · exact absurd rfl h0
    · have hg : (w.alloc (.cells Z 3)).heap[w.heap.size]? = some (.cells Z 3 (0, 0)) := heap_alloc_new _ _
      have hc' : ∀ k, k < l.length → (w.alloc (.cells Z 3)).cell? ⟨b, off + k, none⟩ = some (.int .i64 (l.getD k 0)) := by
        intro k hk
        rw [(bAlloc (Below.refl w.heap.size w) _).cell (p := ⟨b, off + k, none⟩) hb]
        exact hc k hk
      have q := run_copy_row Try.prog (w.alloc (.cells Z 3)) 24 24 ty 3 w.heap.size 0 l.length l.length ⟨b, off, none⟩ l.length d Z 3 (l.map (Value.int .i64)) Try.underlying24 int_size hg (by rw [List.length_map]; simp) (ints_src hc') (by simp; omega) (by intro v hv; obtain ⟨x, _, rfl⟩ := List.mem_map.1 hv; rfl)
      rw [q, setRow_last, List.length_map]
      congr 3
      simp [vals, hZ]
set_option maxHeartbeats 1000000 in
/-- copiedList: a copy in new memory. -/
theorem copied_impl {l : List Int} {a : Option Addr} {w : World} (c : Nat) (h1 : Ints w a l) (hl : l.length ≤ 1048576) :
    Calls Try.prog 62 #[.slice a l.length c] w fun e w' => e = .returned (.slice (some ⟨w.heap.size, 0, none⟩) l.length l.length) ∧ w' = w.alloc (.cells (vals l) 3) := by
  have hmk : ∀ w, (Instr.makeSlice 24 (.int .i64 (l.length : Int)) (.int .i64 (l.length : Int))).run Try.prog w = .ok (.slice (some ⟨w.heap.size, 0, none⟩) l.length l.length) (w.alloc (.cells (vals (List.replicate l.length 0)) 3)) := fun w => make_ints l.length (by omega) w
  have hcp : (Builtin.copy_ #[24, 24] 3 #[.slice (some ⟨w.heap.size, 0, none⟩) l.length l.length, .slice a l.length c]).run Try.prog (w.alloc (.cells (vals (List.replicate l.length 0)) 3)) = .ok (.int .i64 l.length) (w.alloc (.cells (vals l) 3)) := copy_all h1 _ c _ (by simp [vals])
  clear h1
  go_enter Try.func62, Try.ntmps62
  go_wp2
  go_ret
  exact ⟨rfl, rfl⟩
/-- copiedList, as a contract on values. -/
theorem copied_new {l : List Int} {w : World} {v : Value} (h : IntsI w v l) (hl : l.length ≤ 1048576) :
    Calls Try.prog 62 #[v] w fun e w' => ∃ a' c', e = .returned (.slice a' l.length c') ∧ Piece w.heap.size w'.heap.size w' (.slice a' l.length c') l ∧ Below w.heap.size w w' := by
  obtain ⟨a, c, rfl, _, i⟩ := h
  refine (copied_impl c i hl).mono ?_
  rintro e w' ⟨rfl, rfl⟩
  exact ⟨_, _, rfl, OwnInts.piece (ownInts_new w l) (Nat.le_refl _) (by simp) _, bAlloc (Below.refl _ _) _⟩
set_option maxRecDepth 20000 in
set_option maxHeartbeats 4000000 in
/-- copyOf. -/
theorem copyOf_impl {s d : List Int} {w : World} {v : Value} (h : ArrI w v s d) (hs : s.length ≤ 1048576) (hd : d.length ≤ 1048576) :
    Calls Try.prog 41 #[v] w fun e w' => ∃ v', e = .returned v' ∧ Arr w.heap.size w'.heap.size w' v' s d ∧ Below w.heap.size w w' := by
  obtain ⟨a, c, b, e, rfl, h1, h2, g1, g2⟩ := h
  have H1 : Hid (IntsI w (.slice a s.length c) s) := ⟨a, c, rfl, g1, h1⟩
  have H2 : Hid (IntsI w (.slice b d.length e) d) := ⟨b, e, rfl, g2, h2⟩
  have HS : Hid (s.length ≤ 1048576) := hs
  have HD : Hid (d.length ≤ 1048576) := hd
  clear h1 h2 g1 g2 hs hd
  go_enter Try.func41, Try.ntmps41
  go_wp2
  generalize hW : (w.alloc (.cells #[.slice a s.length c, .slice b d.length e] 26)).alloc (.cells #[.slice none 0 0, .slice none 0 0] 26) = W
  have HBW : Hid (Below w.heap.size w W) := by rw [← hW]; exact bAlloc (bAlloc (Below.refl _ _) _) _
  have X : Hid (Box W w.heap.size (.slice a s.length c) (.slice b d.length e) 26) := by rw [← hW]; exact heap_alloc2_old w _ _
  have Y : Hid (Box W (w.heap.size + 1) (.slice none 0 0) (.slice none 0 0) 26) := by rw [← hW]; exact heap_alloc2_new w _ _
  have LW : Hid (w.heap.size + 1 < W.heap.size) := Y.out.lt
  clear hW
  have x0 := X.out.c0
  have x1 := X.out.c1
  go_region_held3 (fun w' => w'.cell? ⟨w.heap.size, 0, none⟩ = some (.slice a s.length c) ∧ w'.cell? ⟨w.heap.size, 1, none⟩ = some (.slice b d.length e))
    (first | exact ⟨z0 _ _, z1 _ _⟩ | exact ⟨y0, y1⟩ | exact ⟨v0, v1⟩ | exact ⟨x0, x1⟩)
    (first
      | (go_at_call_of 62 (Value.slice a s.length c); refine (copied_new (H1.out.keep (bTrans HBW.out ((Below.refl W.heap.size W).drew))) HS.out).mono ?_; rintro r w1 ⟨ax, cx, rfl, ha, hb⟩; have PX : Hid (Piece W.heap.size w1.heap.size w1 (.slice ax s.length cx) s) := ha; have HB1 : Hid (Below W.heap.size W w1) := bTrans ((Below.refl W.heap.size W).drew) hb; have v0 := (X.out.keep HB1.out).c0; have v1 := (X.out.keep HB1.out).c1; clear ha hb)
      | (go_at_call_of 62 (Value.slice b d.length e); refine (copied_new (H2.out.keep (bTrans HBW.out HB1.out)) HD.out).mono ?_; rintro r w2 ⟨ay, cy, rfl, ha, hb⟩; have PY : Hid (Piece w1.heap.size w2.heap.size w2 (.slice ay d.length cy) d) := ha; have PX2 : Hid (Piece W.heap.size w1.heap.size w2 (.slice ax s.length cx) s) := PX.out.keep hb; have S12 : Hid (w1.heap.size ≤ w2.heap.size) := hb.size; have HB2 : Hid (Below W.heap.size W w2) := bTrans HB1.out hb; have y0 := (X.out.keep HB2.out).c0; have y1 := (X.out.keep HB2.out).c1; have q0 := (Y.out.keep HB2.out).c0; have q1 := (Y.out.keep HB2.out).c1; have f0 : w2.frozen? ⟨w.heap.size + 1, 0, none⟩ = false := free_at (Y.out.keep HB2.out) 0; have f1 : w2.frozen? ⟨w.heap.size + 1, 1, none⟩ = false := free_at (Y.out.keep HB2.out) 1; have z : ∀ u v, Box ((w2.setCell ⟨w.heap.size + 1, 0, none⟩ u).setCell ⟨w.heap.size + 1, 1, none⟩ v) w.heap.size (.slice a s.length c) (.slice b d.length e) 26 := (fun u v => ((X.out.keep HB2.out).win (win_setCell _ _ _ _) (.inl (Nat.lt_succ_self _))).win (win_setCell _ _ _ _) (.inl (Nat.lt_succ_self _))); have z0 := (fun u v => (z u v).c0); have z1 := (fun u v => (z u v).c1); have HR : Hid (((w2.setCell ⟨w.heap.size + 1, 0, none⟩ (.slice ax s.length cx)).setCell ⟨w.heap.size + 1, 1, none⟩ (.slice ay d.length cy)).heap[w.heap.size + 1]? = some (.cells #[.slice ax s.length cx, .slice ay d.length cy] 26 (0, 0))) := arr_stored (Y.out.keep HB2.out); clear ha hb z))
  go_wp2
  refine bodyPost_ret (v := .agg #[.slice ax s.length cx, .slice ay d.length cy]) (results_arr rfl _ _ (w.heap.size + 1) _ _ rfl HR.out) rfl ?_
  refine ⟨_, rfl, ?_, below_setCell (below_setCell (bTrans HBW.out HB2.out) (by omega) _ _) (by omega) _ _⟩
  have S1 := HB1.out.size
  have S2 := S12.out
  have S3 := LW.out
  have A : Arr W.heap.size w2.heap.size w2 (.agg #[.slice ax s.length cx, .slice ay d.length cy]) s d := ⟨_, _, rfl, PX2.out.mono (Nat.le_refl _) S12.out, PY.out.mono S1 (Nat.le_refl _), PX2.out.apart PY.out (.inl (Nat.le_refl _))⟩
  exact ((A.setCell S3 _ _).setCell S3 _ _).mono (by omega) (by simp [size_setCell])
end Go.Proofs.Ytcpgdhffemecbaa
namespace Go.Proofs.Ytcpgdhffemecbaa
open Go.RowKit
set_option linter.unusedVariables false
set_option linter.unusedSimpArgs false
set_option maxRecDepth 20000 in
set_option maxHeartbeats 4000000 in
/-- ArrayOk. -/
theorem arrOk_impl {s d : List Int} {w : World} {v : Value} (h : ArrI w v s d) (hd : d.length ≤ 1048576) :
    Calls Try.prog 20 #[v] w fun e w' => e = .returned (.bool (arrOk s d)) ∧ Below w.heap.size w w' := by
  obtain ⟨a, c, b, e, rfl, h1, h2, _, _⟩ := h
  have H1 : Hid (Ints w a s) := h1
  have H2 : Hid (Ints w b d) := h2
  have HD : Hid (d.length ≤ 1048576) := hd
  clear h1 h2 hd
  have HSZ : Hid (∀ W, Ints W a s → Calls Try.prog 60 #[.slice a s.length c] W fun e w' => e = .returned (.int .i64 (sizeV s)) ∧ Below W.heap.size W w') := fun W h => size_impl c h
  have HAR : Hid (∀ W, Ints W b d → Calls Try.prog 61 #[.slice b d.length e] W fun e w' => e = .returned (.bool (d.all ok)) ∧ w' = W) := fun W h => allRight_impl e h HD.out
  by_cases hs : sizeV s = d.length
  · have HV : Hid (arrOk s d = d.all ok) := by show _ = _; simp [arrOk, hs]
    rw [hs] at HSZ
    clear hs
    generalize d.all ok = q at *
    go_enter Try.func20, Try.ntmps20
    go_wp2
    generalize hW : w.alloc (.cells #[.slice a s.length c, .slice b d.length e] 26) = W
    have HB : Hid (Below w.heap.size w W) := by rw [← hW]; exact bAlloc (Below.refl _ _) _
    have X : Hid (Box W w.heap.size (.slice a s.length c) (.slice b d.length e) 26) := by rw [← hW]; exact box_new w _ _ _
    have x0 := X.out.c0
    have x1 := X.out.c1
    clear hW
    go_region_held3 (fun w' => w'.cell? ⟨w.heap.size, 0, none⟩ = some (.slice a s.length c) ∧ w'.cell? ⟨w.heap.size, 1, none⟩ = some (.slice b d.length e))
      (first | exact ⟨z0, z1⟩ | exact ⟨y0, y1⟩ | exact ⟨x0, x1⟩)
      (first
        | (go_at_call 60; refine (HSZ.out _ (H1.out.keep (bTrans HB.out ((Below.refl W.heap.size W).drew)))).mono ?_; rintro r w1 ⟨rfl, hb⟩; have HB1 : Hid (Below W.heap.size W w1) := bTrans ((Below.refl W.heap.size W).drew) hb; have y0 := (X.out.keep HB1.out).c0; have y1 := (X.out.keep HB1.out).c1; clear hb)
        | (go_at_call 61; refine (HAR.out _ (H2.out.keep (bTrans HB.out HB1.out))).mono ?_; rintro r w2 ⟨rfl, hw⟩; subst w2))
    go_wp2
    go_ret
    exact ⟨by rw [HV.out]; rfl, bTrans HB.out HB1.out⟩
  · have HV : Hid (arrOk s d = false) := by show _ = _; simp [arrOk, hs]
    have hne : ((d.length : Int) == sizeV s) = false := by simp; exact fun e => hs e.symm
    generalize sizeV s = z at *
    clear hs
    go_enter Try.func20, Try.ntmps20
    go_wp2
    generalize hW : w.alloc (.cells #[.slice a s.length c, .slice b d.length e] 26) = W
    have HB : Hid (Below w.heap.size w W) := by rw [← hW]; exact bAlloc (Below.refl _ _) _
    have X : Hid (Box W w.heap.size (.slice a s.length c) (.slice b d.length e) 26) := by rw [← hW]; exact box_new w _ _ _
    have x0 := X.out.c0
    have x1 := X.out.c1
    clear hW
    first
      | go_region_with (go_at_call 60; refine (HSZ.out _ (H1.out.keep (bTrans HB.out ((Below.refl W.heap.size W).drew)))).mono ?_; rintro r w1 ⟨rfl, hb⟩; have HB1 : Hid (Below W.heap.size W w1) := bTrans ((Below.refl W.heap.size W).drew) hb; have y0 := (X.out.keep HB1.out).c0; have y1 := (X.out.keep HB1.out).c1; clear hb)
      | fail "no"
    all_goals
      go_wp2
      go_ret
      exact ⟨by rw [HV.out]; rfl, bTrans HB.out HB1.out⟩
set_option maxRecDepth 20000 in
set_option maxHeartbeats 2000000 in
/-- copyIfOk. -/
theorem copyIfOk_impl {s d : List Int} {w : World} {v : Value} (h : ArrI w v s d) (hs : s.length ≤ 1048576) (hd : d.length ≤ 1048576) :
    Calls Try.prog 70 #[v] w fun e w' => ∃ v', e = .returned (.tuple #[v', .bool (arrOk s d)]) ∧ Arr w.heap.size w'.heap.size w' v' (if arrOk s d = true then s else []) (if arrOk s d = true then d else []) ∧ Below w.heap.size w w' := by
  have H : Hid (ArrI w v s d) := h
  obtain ⟨a, c, b, e, rfl, _, _, _, _⟩ := h
  have HS : Hid (s.length ≤ 1048576) := hs
  have HD : Hid (d.length ≤ 1048576) := hd
  clear hs hd
  cases ho : arrOk s d
  all_goals
    have HO : Hid (arrOk s d = _) := ho
    clear ho
    go_enter Try.func70, Try.ntmps70
    go_wp2_with fail
    refine (arrOk_impl (H.out.keep (bAlloc (bAlloc (Below.refl _ _) _) _)) HD.out).mono ?_
    rintro r w1 ⟨rfl, hb⟩
    have HB : Hid (Below w.heap.size w w1) := bTrans (bAlloc (bAlloc (Below.refl _ _) _) _) hb
    have X : Hid (Box w1 w.heap.size (.slice a s.length c) (.slice b d.length e) 26) := ((box_new w _ _ _).keep (bAlloc (Below.refl _ _) _)).keep hb
    have Y : Hid (Box w1 (w.heap.size + 1) (.slice none 0 0) (.slice none 0 0) 26) := (box_new2 w _ _ _ _).keep hb
    have x0 := X.out.c0
    have x1 := X.out.c1
    have y0 := Y.out.c0
    have y1 := Y.out.c1
    have f0 : w1.frozen? ⟨w.heap.size + 1, 0, none⟩ = false := free_at Y.out 0
    have f1 : w1.frozen? ⟨w.heap.size + 1, 1, none⟩ = false := free_at Y.out 1
    clear hb
    rw [HO.out]
  · have HR : Hid (((w1.setCell ⟨w.heap.size + 1, 0, none⟩ (.slice none 0 0)).setCell ⟨w.heap.size + 1, 1, none⟩ (.slice none 0 0)).heap[w.heap.size + 1]? = some (.cells #[.slice none 0 0, .slice none 0 0] 26 (0, 0))) := arr_stored Y.out
    go_wp2
    refine bodyPost_ret (results_arr_tmp Try.results70 _ _ (w.heap.size + 1) _ _ rfl HR.out) rfl ?_
    exact ⟨_, rfl, arr_zero _ _ _, below_setCell (below_setCell HB.out (by omega) _ _) (by omega) _ _⟩
  · go_wp2_with fail
    refine (copyOf_impl (H.out.keep HB.out) HS.out HD.out).mono ?_
    rintro r w2 ⟨v', rfl, ha, hb⟩
    obtain ⟨a', c', b', e', rfl, _, _, _, _⟩ := ha.arrI
    have HA : Hid (Arr w1.heap.size w2.heap.size w2 (.agg #[.slice a' s.length c', .slice b' d.length e']) s d) := ha
    have HB2 : Hid (Below w.heap.size w w2) := bTrans HB.out hb
    have Y2 : Hid (Box w2 (w.heap.size + 1) (.slice none 0 0) (.slice none 0 0) 26) := Y.out.keep hb
    have LT : Hid (w.heap.size + 1 < w1.heap.size) := Y.out.lt
    clear ha hb x0 x1 y0 y1 f0 f1
    have y0 := Y2.out.c0
    have y1 := Y2.out.c1
    have f0 : w2.frozen? ⟨w.heap.size + 1, 0, none⟩ = false := free_at Y2.out 0
    have f1 : w2.frozen? ⟨w.heap.size + 1, 1, none⟩ = false := free_at Y2.out 1
    have HR : Hid (((w2.setCell ⟨w.heap.size + 1, 0, none⟩ (.slice a' s.length c')).setCell ⟨w.heap.size + 1, 1, none⟩ (.slice b' d.length e')).heap[w.heap.size + 1]? = some (.cells #[.slice a' s.length c', .slice b' d.length e'] 26 (0, 0))) := arr_stored Y2.out
    go_wp2
    refine bodyPost_ret (results_arr_tmp Try.results70 _ _ (w.heap.size + 1) _ _ rfl HR.out) rfl ?_
    refine ⟨_, rfl, ?_, below_setCell (below_setCell HB2.out (by omega) _ _) (by omega) _ _⟩
    have L := LT.out
    exact ((HA.out.setCell L _ _).setCell L _ _).mono (by omega) (by simp [size_setCell])
theorem arrOk_one (x : Int) : arrOk [] [x] = ok x := by simp [arrOk, sizeV_0']
set_option maxRecDepth 20000 in
set_option maxHeartbeats 2000000 in
/-- ScalarOf. -/
theorem scalarOf_impl (x : Int) (w : World) :
    Calls Try.prog 28 #[.int .i64 x] w fun e w' => ∃ v, e = .returned (.tuple #[v, .bool (ok x)]) ∧ Arr w.heap.size w'.heap.size w' v [] (if ok x = true then [x] else []) ∧ Below w.heap.size w w' := by
  obtain ⟨D, hD⟩ : ∃ D, D = (if ok x = true then [x] else []) := ⟨_, rfl⟩
  rw [← hD]
  have HC : Hid (∀ W u, ArrI W u [] [x] → Calls Try.prog 70 #[u] W fun e w' => ∃ v', e = .returned (.tuple #[v', .bool (ok x)]) ∧ Arr W.heap.size w'.heap.size w' v' [] D ∧ Below W.heap.size W w') := by
    intro W u hu
    have q := copyIfOk_impl hu (by simp) (by simp)
    rw [arrOk_one, ← hD] at q
    refine q.mono ?_
    rintro e w' ⟨v', rfl, ha, hb⟩
    exact ⟨v', rfl, by simpa using ha, hb⟩
  clear hD
  go_enter Try.func28, Try.ntmps28
  go_wp2_with fail
  refine (HC.out _ _ ⟨none, 0, _, 1, rfl, .inl rfl, (by simpa [vals] using ints_new (w.alloc (.cells #[.slice none 0 0, .slice none 0 0] 26)) [x] 3), by simp, by simp⟩).mono ?_
  rintro r w1 ⟨v', rfl, ha, hb⟩
  obtain ⟨a', c', b', e', rfl, _, _, _, _⟩ := ha.arrI
  have HA : Hid (Arr (w.heap.size + 2) w1.heap.size w1 (.agg #[.slice a' 0 c', .slice b' D.length e']) [] D) := by show Arr _ _ _ _ _ _; simpa using ha
  have HB : Hid (Below w.heap.size w w1) := bTrans (bAlloc (bAlloc (Below.refl _ _) _) _) hb
  have Y : Hid (Box w1 w.heap.size (.slice none 0 0) (.slice none 0 0) 26) := ((box_new w _ _ _).keep (bAlloc (Below.refl _ _) _)).keep hb
  clear ha hb
  have y0 := Y.out.c0
  have y1 := Y.out.c1
  have f0 : w1.frozen? ⟨w.heap.size, 0, none⟩ = false := free_at Y.out 0
  have f1 : w1.frozen? ⟨w.heap.size, 1, none⟩ = false := free_at Y.out 1
  have HR : Hid (((w1.setCell ⟨w.heap.size, 0, none⟩ (.slice a' 0 c')).setCell ⟨w.heap.size, 1, none⟩ (.slice b' D.length e')).heap[w.heap.size]? = some (.cells #[.slice a' 0 c', .slice b' D.length e'] 26 (0, 0))) := arr_stored Y.out
  simp only [List.length_nil]
  go_wp2
  refine bodyPost_ret (results_arr_tmp Try.results28 _ _ w.heap.size _ _ rfl HR.out) rfl ?_
  refine ⟨_, rfl, ?_, below_setCell (below_setCell HB.out (Nat.le_refl _) _ _) (Nat.le_refl _) _ _⟩
  exact ((HA.out.setCell (by omega) _ _).setCell (by omega) _ _).mono (by omega) (by simp [size_setCell])
end Go.Proofs.Ytcpgdhffemecbaa
namespace Go.Proofs.Ytcpgdhffemecbaa
open Go.RowKit
set_option linter.unusedVariables false
set_option linter.unusedSimpArgs false
/-- Are all arrays of a list right? -/
def allOkV (F : List (List Int)) (m : Nat) : Bool := (List.range m).all fun i => arrOk (F.getD (2 * i) []) (F.getD (2 * i + 1) [])
theorem allOkV_succ (F : List (List Int)) (m : Nat) : allOkV F (m + 1) = (allOkV F m && arrOk (F.getD (2 * m) []) (F.getD (2 * m + 1) [])) := by
  unfold allOkV; rw [List.range_succ, List.all_append]; simp
theorem allOkV_no {F : List (List Int)} {m k : Nat} (hk : k < m) (h : arrOk (F.getD (2 * k) []) (F.getD (2 * k + 1) []) = false) : allOkV F m = false := by
  unfold allOkV
  rw [List.all_eq_false]
  exact ⟨k, by simpa using hk, by rw [h]; decide⟩
set_option maxRecDepth 20000 in
set_option maxHeartbeats 1000000 in
/-- allOk. -/
theorem allOk_impl {F : List (List Int)} {w : World} {m ca : Nat} {aa : Option Addr} (hA : ArrsI w (.slice aa m ca) F) (hm : m ≤ 2) (hL : ∀ j, (F.getD j []).length ≤ 1048576) :
    Calls Try.prog 49 #[.slice aa m ca] w fun r w' => r = .returned (.bool (allOkV F m)) ∧ Below w.heap.size w w' := by
  have HA : Hid (ArrsI w (.slice aa m ca) F) := hA
  have HL : Hid (∀ j, (F.getD j []).length ≤ 1048576) := hL
  clear hA hL
  go_enter Try.func49, Try.ntmps49
  go_wp2
  go_loopw [7] (fun i w' => ∃ k : Nat, k ≤ m ∧ i = .int .i64 (k : Int) ∧ allOkV F k = true ∧ Below w.heap.size w w') (fun i _ => m - (intOf i).toNat)
  case atStart => exact ⟨0, by omega, rfl, rfl, Below.refl _ _⟩
  case round =>
    obtain ⟨j, hk, rfl, ht, hb⟩ := hrel
    have HT : Hid (allOkV F j = true) := ht
    have HB : Hid (Below w.heap.size w wr) := hb
    clear ht hb
    by_cases hlt : (j : Int) < (m : Int)
    · obtain ⟨o, off, sx, sy, rfl, ho, p0, p1, i0, i1⟩ := (HA.out.keep HB.out).at (k := j) (by omega)
      obtain ⟨ax, cx, rfl, gix, ix⟩ := i0
      obtain ⟨ay, cy, rfl, giy, iy⟩ := i1
      have A1 : Hid (ArrI wr (.agg #[.slice ax (F.getD (2 * j) []).length cx, .slice ay (F.getD (2 * j + 1) []).length cy]) (F.getD (2 * j) []) (F.getD (2 * j + 1) [])) := ⟨_, _, _, _, rfl, ix, iy, gix, giy⟩
      have HC : Hid (∀ W, Below wr.heap.size wr W → Calls Try.prog 20 #[.agg #[.slice ax (F.getD (2 * j) []).length cx, .slice ay (F.getD (2 * j + 1) []).length cy]] W fun e w' => e = .returned (.bool (arrOk (F.getD (2 * j) []) (F.getD (2 * j + 1) []))) ∧ Below W.heap.size W w') := fun W h => arrOk_impl (A1.out.keep h) (HL.out _)
      have HY : Hid (arrOk (F.getD (2 * j) []) (F.getD (2 * j + 1) []) = true → allOkV F (j + 1) = true) := fun h => by rw [allOkV_succ, HT.out, h]; rfl
      have HN : Hid (arrOk (F.getD (2 * j) []) (F.getD (2 * j + 1) []) = false → allOkV F m = false) := fun h => allOkV_no (by omega) h
      clear ix iy gix giy A1
      generalize (F.getD (2 * j) []).length = ls at *
      generalize (F.getD (2 * j + 1) []).length = ld at *
      generalize arrOk (F.getD (2 * j) []) (F.getD (2 * j + 1) []) = q at *
      cases q
      · have HN' : Hid (allOkV F m = false) := HN.out rfl
        clear HN HY
        go_wp2_with fail
        refine (HC.out _ (bAlloc (Below.refl _ _) _)).mono ?_
        rintro r w2 ⟨rfl, hb⟩
        have HB2 : Hid (Below w.heap.size w w2) := bTrans HB.out (bTrans (bAlloc (Below.refl _ _) _) hb)
        clear hb
        go_wp2
        go_ret
        exact ⟨by rw [HN'.out]; rfl, HB2.out⟩
      · have HY' : Hid (allOkV F (j + 1) = true) := HY.out rfl
        clear HN HY
        go_wp2_with fail
        refine (HC.out _ (bAlloc (Below.refl _ _) _)).mono ?_
        rintro r w2 ⟨rfl, hb⟩
        have HB2 : Hid (Below w.heap.size w w2) := bTrans HB.out (bTrans (bAlloc (Below.refl _ _) _) hb)
        clear hb
        go_wp2
        go_roundw
        case rel => exact ⟨j + 1, by omega, by go_num, HY'.out, HB2.out⟩
        case measure => simp [intOf]; omega
    · obtain rfl : j = m := by omega
      go_wp2
      go_ret
      exact ⟨by rw [HT.out]; rfl, HB.out⟩
set_option maxRecDepth 20000 in
set_option maxHeartbeats 1000000 in
/-- vectorCopy. -/
theorem vecCopy_impl {l : List Int} {w : World} {v : Value} (h : IntsI w v l) (hl : l.length ≤ 1048576) :
    Calls Try.prog 66 #[v] w fun r w' => ∃ v', r = .returned v' ∧ Arr w.heap.size w'.heap.size w' v' [(l.length : Int)] l ∧ Below w.heap.size w w' := by
  obtain ⟨a, c, rfl, g, i⟩ := h
  have HI : Hid (IntsI w (.slice a l.length c) l) := ⟨a, c, rfl, g, i⟩
  have HC : Hid (∀ W, Below w.heap.size w W → Calls Try.prog 62 #[.slice a l.length c] W fun e w' => ∃ a' c', e = .returned (.slice a' l.length c') ∧ Piece W.heap.size w'.heap.size w' (.slice a' l.length c') l ∧ Below W.heap.size W w') := fun W h => copied_new (HI.out.keep h) hl
  clear g i
  go_enter Try.func66, Try.ntmps66
  go_wp2_with fail
  refine (HC.out _ (bAlloc (bAlloc (Below.refl _ _) _) _)).mono ?_
  rintro r w1 ⟨a2, c2, rfl, hp, hb⟩
  have HP : Hid (Piece (w.heap.size + 2) w1.heap.size w1 (.slice a2 l.length c2) l) := by show Piece _ _ _ _ _; simpa using hp
  have HB : Hid (Below w.heap.size w w1) := bTrans (bAlloc (bAlloc (Below.refl _ _) _) _) hb
  have Y : Hid (Box w1 w.heap.size (.slice none 0 0) (.slice none 0 0) 26) := ((box_new w _ _ _).keep (bAlloc (Below.refl _ _) _)).keep hb
  have PS : Hid (Piece (w.heap.size + 1) (w.heap.size + 2) w1 (.slice (some ⟨w.heap.size + 1, 0, none⟩) 1 1) [(l.length : Int)]) := by
    have p := OwnInts.piece (ownInts_new (w.alloc (.cells #[.slice none 0 0, .slice none 0 0] 26)) [(l.length : Int)]) (B := w.heap.size + 1) (C := w.heap.size + 2) (by simp) (by simp) 1
    have p' : Piece (w.heap.size + 1) (w.heap.size + 2) ((w.alloc (.cells #[.slice none 0 0, .slice none 0 0] 26)).alloc (.cells #[.int .i64 (l.length : Int)] 3)) (.slice (some ⟨w.heap.size + 1, 0, none⟩) 1 1) [(l.length : Int)] := by simpa [vals] using p
    exact p'.keep hb
  have LT : Hid (w.heap.size + 2 ≤ w1.heap.size) := by have := hb.size; show _ ≤ _; simpa using this
  clear hp hb
  have y0 := Y.out.c0
  have y1 := Y.out.c1
  have f0 : w1.frozen? ⟨w.heap.size, 0, none⟩ = false := free_at Y.out 0
  have f1 : w1.frozen? ⟨w.heap.size, 1, none⟩ = false := free_at Y.out 1
  have HR : Hid (((w1.setCell ⟨w.heap.size, 0, none⟩ (.slice (some ⟨w.heap.size + 1, 0, none⟩) 1 1)).setCell ⟨w.heap.size, 1, none⟩ (.slice a2 l.length c2)).heap[w.heap.size]? = some (.cells #[.slice (some ⟨w.heap.size + 1, 0, none⟩) 1 1, .slice a2 l.length c2] 26 (0, 0))) := arr_stored Y.out
  go_wp2
  refine bodyPost_ret (v := .agg #[.slice (some ⟨w.heap.size + 1, 0, none⟩) 1 1, .slice a2 l.length c2]) (results_arr rfl _ _ w.heap.size _ _ rfl HR.out) rfl ?_
  refine ⟨_, rfl, ?_, below_setCell (below_setCell HB.out (Nat.le_refl _) _ _) (Nat.le_refl _) _ _⟩
  have L := LT.out
  have p1' := (PS.out.win (win_setCell w1 w.heap.size 0 (.slice (some ⟨w.heap.size + 1, 0, none⟩) 1 1)) (.inr (by omega))).win (win_setCell _ w.heap.size 1 (.slice a2 l.length c2)) (.inr (by omega))
  have p2' := (HP.out.win (win_setCell w1 w.heap.size 0 (.slice (some ⟨w.heap.size + 1, 0, none⟩) 1 1)) (.inr (by omega))).win (win_setCell _ w.heap.size 1 (.slice a2 l.length c2)) (.inr (by omega))
  exact ⟨_, _, rfl, p1'.mono (by omega) (by simp only [size_setCell]; omega), p2'.mono (by omega) (by simp only [size_setCell]; omega), p1'.apart p2' (.inl (by omega))⟩
/-- What soleNumber tells: a code, and the number beside it. -/
def soleC (s d : List Int) (q : Bool) : Int := if arrOk s d = true ∧ q = true then (if d.length ≠ 1 then 3 else 0) else 1
def soleV (s d : List Int) (q : Bool) : Int := if soleC s d q = 0 then d.getD 0 0 else 0
set_option maxRecDepth 20000 in
set_option maxHeartbeats 2000000 in
/-- soleNumber. -/
theorem sole_impl {s d : List Int} {F : List (List Int)} {w : World} {v : Value} {m ca : Nat} {aa : Option Addr} (h : ArrI w v s d) (hd : d.length ≤ 1048576) (hA : ArrsI w (.slice aa m ca) F) (hm : m ≤ 2) (hL : ∀ j, (F.getD j []).length ≤ 1048576) :
    Calls Try.prog 71 #[v, .slice aa m ca] w fun r w' => r = .returned (.tuple #[.int .i64 (soleV s d (allOkV F m)), .int .i64 (soleC s d (allOkV F m))]) ∧ Below w.heap.size w w' := by
  have H : Hid (ArrI w v s d) := h
  have HC : Hid (∀ W, Below w.heap.size w W → Calls Try.prog 49 #[.slice aa m ca] W fun r w' => r = .returned (.bool (allOkV F m)) ∧ Below W.heap.size W w') := fun W h => allOk_impl (hA.keep h) hm hL
  have HD : Hid (∀ W, Below w.heap.size w W → Calls Try.prog 20 #[v] W fun r w' => r = .returned (.bool (arrOk s d)) ∧ Below W.heap.size W w') := fun W hb => arrOk_impl (h.keep hb) hd
  obtain ⟨a, c, b, e, rfl, _, ib, _, _⟩ := h
  have HI : Hid (Ints w b d) := ib
  clear hA hm hL hd ib
  generalize allOkV F m = q at *
  obtain ⟨x, hx⟩ : ∃ x, x = soleV s d q := ⟨_, rfl⟩
  obtain ⟨y, hy⟩ : ∃ y, y = soleC s d q := ⟨_, rfl⟩
  rw [← hx, ← hy]
  have E1 : Hid (arrOk s d = false → y = 1 ∧ x = 0) := fun h => by
    have : soleC s d q = 1 := by unfold soleC; rw [if_neg (by rw [h]; simp)]
    rw [hy, hx]; unfold soleV; rw [this]; exact ⟨rfl, rfl⟩
  have E2 : Hid (q = false → y = 1 ∧ x = 0) := fun h => by
    have : soleC s d q = 1 := by unfold soleC; rw [if_neg (by rw [h]; simp)]
    rw [hy, hx]; unfold soleV; rw [this]; exact ⟨rfl, rfl⟩
  have E3 : Hid (arrOk s d = true → q = true → d.length ≠ 1 → y = 3 ∧ x = 0) := fun h1 h2 h3 => by
    have : soleC s d q = 3 := by unfold soleC; rw [if_pos ⟨h1, h2⟩, if_pos h3]
    rw [hy, hx]; unfold soleV; rw [this]; exact ⟨rfl, rfl⟩
  have E4 : Hid (arrOk s d = true → q = true → d.length = 1 → y = 0 ∧ x = d.getD 0 0) := fun h1 h2 h3 => by
    have : soleC s d q = 0 := by unfold soleC; rw [if_pos ⟨h1, h2⟩, if_neg (by simpa using h3)]
    rw [hy, hx]; unfold soleV; rw [this]; exact ⟨rfl, rfl⟩
  clear hx hy
  generalize arrOk s d = z at *
  go_enter Try.func71, Try.ntmps71
  go_wp2_with fail
  refine (HD.out _ (bAlloc (Below.refl _ _) _)).mono ?_
  rintro r w1 ⟨rfl, hb⟩
  have HB : Hid (Below w.heap.size w w1) := bTrans (bAlloc (Below.refl _ _) _) hb
  have X : Hid (Box w1 w.heap.size (.slice a s.length c) (.slice b d.length e) 26) := (box_new w _ _ _).keep hb
  clear hb
  cases z
  · obtain ⟨rfl, rfl⟩ := E1.out rfl
    clear E1 E2 E3 E4
    go_wp2
    go_ret2
    exact ⟨rfl, HB.out⟩
  · go_wp2_with fail
    refine (HC.out _ HB.out).mono ?_
    rintro r w2 ⟨rfl, hb⟩
    have HB2 : Hid (Below w.heap.size w w2) := bTrans HB.out hb
    have X2 : Hid (Box w2 w.heap.size (.slice a s.length c) (.slice b d.length e) 26) := X.out.keep hb
    clear hb
    cases q
    · obtain ⟨rfl, rfl⟩ := E2.out (by trivial)
      clear E1 E2 E3 E4
      go_wp2
      go_ret2
      exact ⟨rfl, HB2.out⟩
    · have x1 := X2.out.c1
      by_cases hl : d.length = 1
      · obtain ⟨rfl, hx⟩ := E4.out (by trivial) (by trivial) hl
        clear E1 E2 E3 E4
        obtain ⟨b1, o1, rfl, _, c1⟩ := (HI.out.keep HB2.out).at (k := 0) (by omega)
        rw [Nat.add_zero, ← hx] at c1
        rw [hl] at x1
        clear hl hx
        go_wp2
        go_ret2
        exact ⟨rfl, HB2.out⟩
      · obtain ⟨rfl, rfl⟩ := E3.out (by trivial) (by trivial) hl
        clear E1 E2 E3 E4
        have hne : ((d.length : Int) != 1) = true := by simp; omega
        generalize d.length = n at *
        clear hl
        go_wp2
        go_ret2
        exact ⟨rfl, HB2.out⟩
/-- The shape as withRows has it. -/
def rowsS (s : List Int) : List Int := if s = [] then [1] else s
end Go.Proofs.Ytcpgdhffemecbaa
namespace Go.Proofs.Ytcpgdhffemecbaa
open Go.RowKit
set_option linter.unusedVariables false
set_option linter.unusedSimpArgs false
/-- The first k of n places are filled, again and again. -/
def againTo (e : List Int) (n k : Nat) : List Int := (List.range n).map fun i => if i < k then e.getD (i % e.length) 0 else 0
theorem againTo_zero (e : List Int) (n : Nat) : againTo e n 0 = List.replicate n 0 := by
  unfold againTo
  apply List.ext_getElem
  · simp
  · intro i h1 h2; simp
theorem againTo_all {e : List Int} (h : e ≠ []) (n : Nat) : againTo e n n = againD e n := by
  unfold againTo againD
  apply List.map_congr_left
  intro i hi
  rw [if_pos (by simpa using hi), if_neg h]
theorem againD_nil (n : Nat) : againD [] n = List.replicate n 0 := by
  unfold againD
  apply List.ext_getElem
  · simp
  · intro i h1 h2; simp
theorem againTo_length (e : List Int) (n k : Nat) : (againTo e n k).length = n := by simp [againTo]
theorem againTo_at (e : List Int) {n k i : Nat} (hi : i < n) : (againTo e n k).getD i 0 = if i < k then e.getD (i % e.length) 0 else 0 := by
  unfold againTo
  simp [hi]
theorem paste_again {e : List Int} {n k m : Nat} (hk : k % e.length = 0) (hm : m ≤ e.length) (hn : k + m ≤ n) : paste (againTo e n k) k e m = againTo e n (k + m) := by
  apply List.ext_getElem
  · rw [paste_length (by rw [againTo_length]; exact hn) hm, againTo_length, againTo_length]
  · intro i h1 h2
    have hi : i < n := by rwa [againTo_length] at h2
    have q := paste_at (l := againTo e n k) (e := e) (k := k) (m := m) (by rw [againTo_length]; exact hn) hm i
    rw [againTo_at e hi] at q
    have r := againTo_at e (k := k + m) hi
    simp only [List.getD_eq_getElem?_getD] at q r
    rw [List.getElem?_eq_getElem h1] at q
    rw [List.getElem?_eq_getElem h2] at r
    simp only [Option.getD_some] at q r
    rw [q, r]
    by_cases c1 : i < k
    · rw [if_pos c1, if_pos c1, if_pos (by omega)]
    · rw [if_neg c1, if_neg c1]
      by_cases c2 : i < k + m
      · rw [if_pos c2, if_pos c2]
        have : i % e.length = i - k := by
          have e1 : i = k + (i - k) := by omega
          conv => lhs; rw [e1]
          rw [Nat.add_mod, hk, Nat.zero_add, Nat.mod_mod, Nat.mod_eq_of_lt (by omega)]
        rw [this]
      · rw [if_neg c2, if_neg c2]
set_option maxRecDepth 20000 in
set_option maxHeartbeats 2000000 in
/-- againAndAgain. -/
theorem again_impl {e : List Int} {a : Option Addr} {w : World} {n c : Nat} (h : Ints w a e) (he : e.length ≤ 1048576) (hn : n ≤ 1048576) :
    Calls Try.prog 127 #[.slice a e.length c, .int .i64 (n : Int)] w fun r w' => r = .returned (.slice (some ⟨w.heap.size, 0, none⟩) n n) ∧ OwnInts w' w.heap.size (againD e n) ∧ Below w.heap.size w w' := by
  have hmk : ∀ w, (Instr.makeSlice 24 (.int .i64 (n : Int)) (.int .i64 (n : Int))).run Try.prog w = .ok (.slice (some ⟨w.heap.size, 0, none⟩) n n) (w.alloc (.cells (vals (List.replicate n 0)) 3)) := fun w => make_ints n (by omega) w
  obtain ⟨D, hD⟩ : ∃ D, D = againD e n := ⟨_, rfl⟩
  rw [← hD]
  by_cases h0 : e = []
  · have ED : Hid (D = List.replicate n 0) := by show _ = _; rw [hD, h0, againD_nil]
    subst h0
    clear hD
    simp only [List.length_nil]
    go_enter Try.func127, Try.ntmps127
    go_wp2
    go_ret
    refine ⟨rfl, ?_, bAlloc (Below.refl _ _) _⟩
    rw [ED.out]
    exact ownInts_new _ _
  · have ED : Hid (D = againTo e n n) := by show _ = _; rw [hD, againTo_all h0]
    have hl : 0 < e.length := by cases e with | nil => exact absurd rfl h0 | cons _ _ => simp
    have hne : ((e.length : Int) == 0) = false := by simp; exact h0
    have HI : Hid (Ints w a e) := h
    have HP : Hid (∀ k m, k % e.length = 0 → m ≤ e.length → k + m ≤ n → paste (againTo e n k) k e m = againTo e n (k + m)) := fun k m a b c => paste_again a b c
    have HCP : Hid (∀ W g l k r dC, Below w.heap.size w W → OwnInts W g l → k + min e.length r ≤ l.length → (Builtin.copy_ #[24, 24] 3 #[.slice (some ⟨g, k, none⟩) r dC, .slice a e.length c]).run Try.prog W = .ok (.int .i64 ((min e.length r : Nat) : Int)) (W.setRow g (vals (paste l k e (min e.length r))))) := fun W g l k r dC hb ho hf => copy_paste ho (HI.out.keep hb) hf _ dC c
    clear hD h0 h he
    generalize e.length = p at *
    go_enter Try.func127, Try.ntmps127
    go_wp2
    go_loopw [6] (fun i w' => ∃ (k r : Nat) (A : Option Addr), k + r = n ∧ i = .slice A r r ∧ (0 < r → A = some ⟨w.heap.size, k, none⟩ ∧ k % p = 0) ∧ OwnInts w' w.heap.size (againTo e n k) ∧ Below w.heap.size w w') (fun i _ => match i with | .slice _ r _ => r | _ => 0)
    case atStart => exact ⟨0, n, _, by omega, rfl, fun _ => ⟨rfl, by simp⟩, by rw [againTo_zero]; exact ownInts_new _ _, bAlloc (Below.refl _ _) _⟩
    case round =>
      obtain ⟨k, r, A, hkr, rfl, hA, hO, hb⟩ := hrel
      have HK : Hid (k + r = n) := hkr
      have HO : Hid (OwnInts wr w.heap.size (againTo e n k)) := hO
      have HB : Hid (Below w.heap.size w wr) := hb
      by_cases hlt : (0 : Int) < (r : Int)
      · obtain ⟨rfl, hk⟩ := hA (by omega)
        have hcp := HCP.out wr w.heap.size (againTo e n k) k r r hb hO (by rw [againTo_length]; omega)
        rw [HP.out k (min p r) hk (by omega) (by omega)] at hcp
        have HM : Hid (min p r ≤ r ∧ 0 < min p r ∧ (0 < r - min p r → (k + min p r) % p = 0)) := ⟨by omega, by omega, fun h => by
          have : min p r = p := by omega
          rw [this, Nat.add_mod_right, hk]⟩
        generalize min p r = m at *
        have hsl := fun W => run_from (a := some ⟨w.heap.size, k, none⟩) (n := r) (c := r) (M := m) HM.out.1 (Nat.le_refl _) W
        have HO' : Hid (OwnInts (wr.setRow w.heap.size (vals (againTo e n (k + m)))) w.heap.size (againTo e n (k + m))) := hO.setRow _
        have HB' : Hid (Below w.heap.size w (wr.setRow w.heap.size (vals (againTo e n (k + m))))) := below_setRow hb (Nat.le_refl _) _
        clear hA hO hb hkr hk
        generalize hW : wr.setRow w.heap.size (vals (againTo e n (k + m))) = W at *
        clear hW
        go_wp2
        go_roundw
        case rel => exact ⟨k + m, r - m, _, by have := HK.out; have := HM.out; omega, rfl, fun h => ⟨by rw [if_neg (by omega)]; first | done | simp [Addr.add], HM.out.2.2 h⟩, HO'.out, HB'.out⟩
        case measure => have := HM.out; show r - m < r; omega
      · obtain rfl : r = 0 := by omega
        obtain rfl : k = n := by omega
        clear hA hO hb hkr
        go_wp2
        go_ret
        exact ⟨rfl, by rw [ED.out]; exact HO.out, HB.out⟩
/-- belowNought. -/
theorem belowN_impl (x : Int) (w : World) : Calls Try.prog 126 #[.int .i64 x] w fun r w' => r = .returned (.bool (decide (x < 0))) ∧ w' = w := by
  by_cases h : x < 0
  all_goals
    go_enter Try.func126, Try.ntmps126
    go_wp2
    go_ret
    exact ⟨by simp [h], rfl⟩
set_option maxRecDepth 20000 in
set_option maxHeartbeats 2000000 in
/-- slices.IndexFunc over belowNought: where there is one below nought. -/
theorem indexBelow_impl {l : List Int} {a : Option Addr} {w : World} {c : Nat} (h : Ints w a l) (hl : l.length ≤ 1048576) :
    Calls Try.prog 130 #[.slice a l.length c, .func (.func 126) #[] #[]] w fun r w' => ∃ x : Int, r = .returned (.int .i64 x) ∧ (decide (0 ≤ x) = l.any fun x => decide (x < 0)) ∧ w' = w := by
  have HI : Hid (Ints w a l) := h
  have hE : ∀ (args : Array Value) (w : World), (callFunc 126 args).run Try.prog w = .ok (.enter 126 args) w := enters_of Try.func126 (by kernel_rfl) rfl
  clear h
  go_enter Try.func130, Try.ntmps130
  go_wp2
  go_loopw [8] (fun i w' => ∃ k : Nat, k ≤ l.length ∧ i = .int .i64 (k : Int) ∧ ((l.take k).any fun x => decide (x < 0)) = false ∧ w' = w) (fun i _ => l.length - (intOf i).toNat)
  case atStart => exact ⟨0, by omega, rfl, by simp, rfl⟩
  case round =>
    obtain ⟨k, hk, rfl, ht, rfl⟩ := hrel
    have HT : Hid (((l.take k).any fun x => decide (x < 0)) = false) := ht
    clear ht
    by_cases hlt : (k : Int) < (l.length : Int)
    · have L : k < l.length := by omega
      obtain ⟨b1, o1, rfl, _, c1⟩ := HI.out.at L
      have Q : Hid (((l.take (k + 1)).any fun x => decide (x < 0)) = (((l.take k).any fun x => decide (x < 0)) || decide (l.getD k 0 < 0))) := by show _ = _; rw [take_snoc L]; simp
      have QB : Hid (l.getD k 0 < 0 → (l.any fun x => decide (x < 0)) = true) := fun h => by
        rw [List.any_eq_true]
        exact ⟨l.getD k 0, by simp [L], by simpa using h⟩
      clear L
      generalize l.getD k 0 = x at c1 Q QB
      by_cases hx : x < 0
      · have QB' : Hid ((l.any fun x => decide (x < 0)) = true) := QB.out hx
        clear Q QB
        have hd : decide (x < 0) = true := by simp [hx]
        go_wp2_with (go_at_fn 126; refine (belowN_impl x _).mono ?_; rintro r w2 ⟨rfl, hw⟩; subst w2; rw [hd])
        go_ret
        exact ⟨_, rfl, by rw [QB'.out]; simp, rfl⟩
      · have HT' : Hid (((l.take (k + 1)).any fun x => decide (x < 0)) = false) := by show _ = _; rw [Q.out, HT.out]; simpa using hx
        clear Q QB
        have hd : decide (x < 0) = false := by simpa using hx
        go_wp2_with (go_at_fn 126; refine (belowN_impl x _).mono ?_; rintro r w2 ⟨rfl, hw⟩; subst w2; rw [hd])
        go_roundw
        case rel => exact ⟨k + 1, by omega, by go_num, HT'.out, by first | trivial | rfl⟩
        case measure => simp [intOf]; omega
    · have HV : Hid ((l.any fun x => decide (x < 0)) = false) := by
        have h := HT.out
        show _ = _
        rw [List.take_of_length_le (by omega)] at h
        exact h
      go_wp2
      go_ret
      exact ⟨_, rfl, by rw [HV.out]; rfl, rfl⟩
set_option maxRecDepth 20000 in
set_option maxHeartbeats 2000000 in
/-- slices.ContainsFunc over belowNought. -/
theorem containsBelow_impl {l : List Int} {a : Option Addr} {w : World} {c : Nat} (h : Ints w a l) (hl : l.length ≤ 1048576) :
    Calls Try.prog 125 #[.slice a l.length c, .func (.func 126) #[] #[]] w fun r w' => r = .returned (.bool (l.any fun x => decide (x < 0))) ∧ w' = w := by
  have HC : Hid (Calls Try.prog 130 #[.slice a l.length c, .func (.func 126) #[] #[]] w fun r w' => ∃ x : Int, r = .returned (.int .i64 x) ∧ (decide (0 ≤ x) = l.any fun x => decide (x < 0)) ∧ w' = w) := indexBelow_impl h hl
  clear h
  generalize (l.any fun x => decide (x < 0)) = q at *
  go_enter Try.func125, Try.ntmps125
  go_wp2_with fail
  refine HC.out.mono ?_
  rintro r w1 ⟨x, rfl, hx, rfl⟩
  clear HC
  by_cases h0 : (0 : Int) ≤ x
  · have E : Hid (q = true) := by show _ = _; rw [← hx]; simpa using h0
    clear hx
    go_wp2
    go_ret
    exact ⟨by rw [E.out]; simp [h0], rfl⟩
  · have E : Hid (q = false) := by show _ = _; rw [← hx]; simpa using h0
    clear hx
    go_wp2
    go_ret
    exact ⟨by rw [E.out]; simp [h0], rfl⟩
end Go.Proofs.Ytcpgdhffemecbaa
namespace Go.Proofs.Ytcpgdhffemecbaa
set_option linter.unusedVariables false
theorem foldl_mul5 (a : Int) (l : List Int) : l.foldl (fun x y => x * y) a = a * l.foldl (fun x y => x * y) 1 := by
  induction l generalizing a with
  | nil => simp
  | cons x l ih => rw [List.foldl_cons, List.foldl_cons, ih (a * x), ih (1 * x), Int.one_mul, Int.mul_assoc]
theorem prodV_cons5 (x : Int) (l : List Int) : prodV (x :: l) = x * prodV l := by
  unfold prodV
  rw [List.foldl_cons, foldl_mul5, Int.one_mul]
theorem tail5 {n0 : Int} {t : List Int} (h : 0 ≤ sizeV (n0 :: t)) (hp : 0 < n0) : 0 ≤ sizeV t ∧ n0 * sizeV t = sizeV (n0 :: t) ∧ sizeV t ≤ 300 := by
  obtain ⟨k1, k2, k3, k4⟩ := sizeV_ok h
  rw [prodV_cons5] at k3 k4
  simp only [List.all_cons, Bool.and_eq_true] at k2
  have p0 := (prodV_bd t k2.2).1
  have p1 : 1 * prodV t ≤ n0 * prodV t := Int.mul_le_mul_of_nonneg_right (by omega) p0
  rw [Int.one_mul] at p1
  have e : sizeV t = prodV t := by
    unfold sizeV
    rw [if_neg (by simp at k1; omega), if_pos k2.2, if_neg (by omega)]
  rw [e]
  exact ⟨p0, by rw [← k4], by omega⟩
theorem zero5 {t : List Int} (h : 0 ≤ sizeV (0 :: t)) : sizeV (0 :: t) = 0 := by
  rw [(sizeV_ok h).2.2.2, prodV_cons5, Int.zero_mul]
theorem dim5 {n0 : Int} {t : List Int} (h : 0 ≤ sizeV (n0 :: t)) : 0 ≤ n0 ∧ n0 ≤ 300 := by
  have := (sizeV_ok h).2.1
  rw [List.all_eq_true] at this
  have := this n0 (by simp)
  simpa [dimOk] using this
theorem rowsN5 {s d : List Int} (ho : arrOk s d = true) : rowsN s ≤ 300 ∧ s.getD 0 0 = (rowsN s : Int) := by
  have := head_bd ho
  unfold rowsN
  omega
theorem rows5 {s d : List Int} (ho : arrOk s d = true) (hs : s ≠ []) : rowsN s * rowN s = d.length := by
  obtain ⟨e1, e2⟩ := rowsN5 ho
  have z := arrOk_size ho
  have h := arrOk_shape ho
  cases s with
  | nil => exact absurd rfl hs
  | cons n0 t =>
    have h0 : n0 = (rowsN (n0 :: t) : Int) := e2
    have : rowN (n0 :: t) = (sizeV t).toNat := rfl
    by_cases hp : 0 < n0
    · obtain ⟨p0, p1, p2⟩ := tail5 h hp
      have q : ((rowsN (n0 :: t) * rowN (n0 :: t) : Nat) : Int) = (d.length : Int) := by
        rw [this, Int.natCast_mul, ← h0, Int.toNat_of_nonneg p0, p1, z]
      omega
    · have hz : rowsN (n0 :: t) = 0 := by omega
      have e : n0 = 0 := by omega
      subst e
      rw [zero5 h] at z
      rw [hz, Nat.zero_mul]
      omega
/-- One chosen row: that of a number, or noughts. -/
def chosenRow (s d : List Int) (j : Int) : List Int := if 0 ≤ j ∧ j < s.getD 0 0 then rowAt s d j.toNat else List.replicate (rowN s) 0
def chosenD (s d : List Int) (φ : Nat → Int) (n : Nat) : List Int := (List.range n).flatMap fun i => chosenRow s d (φ i)
theorem rowAt_length {s d : List Int} (ho : arrOk s d = true) (hs : s ≠ []) {i : Nat} (hi : i < rowsN s) : (rowAt s d i).length = rowN s := by
  have q := rows5 ho hs
  have : (i + 1) * rowN s ≤ rowsN s * rowN s := Nat.mul_le_mul_right _ (by omega)
  rw [Nat.succ_mul] at this
  unfold rowAt
  simp
  omega
theorem chosenRow_length {s d : List Int} (ho : arrOk s d = true) (hs : s ≠ []) (j : Int) : (chosenRow s d j).length = rowN s := by
  unfold chosenRow
  split
  · rename_i h
    have := (rowsN5 ho).2
    exact rowAt_length ho hs (by omega)
  · simp
theorem flat_len {n m : Nat} {f : Nat → List Int} (h : ∀ i, (f i).length = m) : ((List.range n).flatMap f).length = n * m := by
  induction n with
  | zero => simp
  | succ n ih => rw [List.range_succ, List.flatMap_append, List.length_append, ih, Nat.succ_mul]; simp [h]
theorem chosenD_length {s d : List Int} (ho : arrOk s d = true) (hs : s ≠ []) (φ : Nat → Int) (n : Nat) : (chosenD s d φ n).length = n * rowN s := flat_len (fun i => chosenRow_length ho hs (φ i))
theorem chosenD_succ (s d : List Int) (φ : Nat → Int) (n : Nat) : chosenD s d φ (n + 1) = chosenD s d φ n ++ chosenRow s d (φ n) := by
  unfold chosenD; rw [List.range_succ, List.flatMap_append]; simp
/-- The first k rows of n are chosen. -/
def chosenTo (s d : List Int) (φ : Nat → Int) (n k : Nat) : List Int := chosenD s d φ k ++ List.replicate ((n - k) * rowN s) 0
theorem chosenTo_zero (s d : List Int) (φ : Nat → Int) (n : Nat) : chosenTo s d φ n 0 = List.replicate (n * rowN s) 0 := by simp [chosenTo, chosenD]
theorem chosenTo_all (s d : List Int) (φ : Nat → Int) (n : Nat) : chosenTo s d φ n n = chosenD s d φ n := by simp [chosenTo]
theorem chosenTo_length {s d : List Int} (ho : arrOk s d = true) (hs : s ≠ []) (φ : Nat → Int) {n k : Nat} (hk : k ≤ n) : (chosenTo s d φ n k).length = n * rowN s := by
  unfold chosenTo
  rw [List.length_append, chosenD_length ho hs, List.length_replicate, ← Nat.add_mul]
  congr 1
  omega
theorem chosenTo_no {s d : List Int} {φ : Nat → Int} {n k : Nat} (hk : k < n) (h : ¬ (0 ≤ φ k ∧ φ k < s.getD 0 0)) : chosenTo s d φ n k = chosenTo s d φ n (k + 1) := by
  unfold chosenTo
  rw [chosenD_succ]
  unfold chosenRow
  rw [if_neg h, List.append_assoc, List.replicate_append_replicate]
  congr 2
  rw [show n - k = (n - (k + 1)) + 1 by omega, Nat.succ_mul, Nat.add_comm]
theorem chosenTo_yes {s d : List Int} (ho : arrOk s d = true) (hs : s ≠ []) {φ : Nat → Int} {n k : Nat} (hk : k < n) (h : 0 ≤ φ k ∧ φ k < s.getD 0 0) : paste (chosenTo s d φ n k) (k * rowN s) (d.drop ((φ k).toNat * rowN s)) (rowN s) = chosenTo s d φ n (k + 1) := by
  have l0 := chosenD_length ho hs φ k
  unfold paste chosenTo
  rw [chosenD_succ]
  have e1 : chosenRow s d (φ k) = (d.drop ((φ k).toNat * rowN s)).take (rowN s) := by unfold chosenRow; rw [if_pos h]; rfl
  have e2 : (chosenD s d φ k).drop (k * rowN s + rowN s) = [] := List.drop_of_length_le (by omega)
  rw [e1, List.take_append_of_le_length (by omega), List.take_of_length_le (by omega), List.drop_append, l0, e2, List.nil_append, List.drop_replicate]
  congr 2
  rw [show n - k = (n - (k + 1)) + 1 by omega, Nat.succ_mul]
  omega
end Go.Proofs.Ytcpgdhffemecbaa
namespace Go.Proofs.Ytcpgdhffemecbaa
open Go.RowKit
set_option linter.unusedVariables false
set_option linter.unusedSimpArgs false
theorem run_between {a : Option Addr} {n c M N : Nat} (hM : M ≤ N) (hc : N ≤ c) (W : World) : (Instr.slice 24 (.slice a n c) (some (.int .i64 (M : Int))) (some (.int .i64 (N : Int))) none).run Try.prog W = .ok (.slice (if c - M = 0 then a else a.map (·.add (M * 1))) (N - M) (c - M)) W := by
  have hs : (sizeOf 3).run Try.prog W = .ok 1 W := by kernel_rfl
  have he : Try.prog.elem 24 = 3 := by kernel_rfl
  rw [run_slice_lh (P := Try.prog) (w := W) 24 a n c (by rw [he]; exact Try.underlying24) .i64 .i64 (M : Int) (N : Int) (by omega) (by omega) (by omega), he, hs]
  have e : (c = M) = (c - M = 0) := by apply propext; omega
  simp [Result.andThen, sliced, e]
theorem ints_cell5 {w : World} {b o : Nat} {l : List Int} {k : Nat} (h : Ints w (some ⟨b, o, none⟩) l) (hk : k < l.length) : w.cell? ⟨b, o + k, none⟩ = some (.int .i64 (l.getD k 0)) := by
  obtain ⟨b', o', e, hb, hc⟩ := h.at hk
  cases e
  exact hc
theorem ints_from5 {w : World} {b : Option Addr} {d : List Int} {e : Nat} (C : Nat) (h : Ints w b d) (he : d.length ≤ e) : Ints w (if e - C = 0 then b else b.map (·.add (C * 1))) (d.drop C) := by
  by_cases h0 : d.length ≤ C
  · exact .inl (List.drop_of_length_le h0)
  · rw [if_neg (by omega)]
    obtain ⟨b', o', rfl, _, _⟩ := h.at (k := 0) (by omega)
    have := ints_tail C h
    by_cases hC0 : C = 0 <;> simpa [Addr.add, hC0] using this
theorem OwnInts.keep5 {w w' : World} {g : Nat} {l : List Int} (h : OwnInts w g l) (hb : Below w.heap.size w w') : OwnInts w' g l := by
  unfold OwnInts
  rw [hb.block _ (lt_of_heapA h)]
  exact h
theorem measure5 {k n : Nat} (h : wrap64 ((k : Int) + 1) = (k : Int) + 1) (hk : k < n) : n - (wrap64 ((k : Int) + 1)).toNat < n - ((k : Int)).toNat := by
  rw [h]; omega
theorem wrap5 {a : Int} (h1 : -1000000000000000 ≤ a) (h2 : a ≤ 1000000000000000) : wrap64 a = a := by unfold wrap64; omega
/-- A row is copied to its place. -/
theorem copy_row5 {w : World} {g m A B C L e : Nat} {l d : List Int} {b : Option Addr} (ho : OwnInts w g l) (hl : l.length = m) (hi : Ints w b d) (he : d.length ≤ e) (hA : A + L = B) (hB : B ≤ m) (hC : C + L ≤ d.length) (ty : TypeId) :
    (Builtin.copy_ #[24, 24] ty #[.slice (if m - A = 0 then some ⟨g, 0, none⟩ else (some (⟨g, 0, none⟩ : Addr)).map (·.add (A * 1))) (B - A) (m - A), .slice (if e - C = 0 then b else b.map (·.add (C * 1))) (d.length - C) (e - C)]).run Try.prog w = .ok (.int .i64 (L : Int)) (w.setRow g (vals (paste l A (d.drop C) L))) := by
  have hi' := ints_from5 (e := e) C hi he
  have hL : B - A = L := by omega
  have hd : (d.drop C).length = d.length - C := by simp
  rw [hL]
  by_cases h0 : m - A = 0
  · obtain rfl : L = 0 := by omega
    rw [if_pos h0, paste_zero, setRow_self w g (vals l) _ _ ho]
    exact run_copy_none (P := Try.prog) _ 24 24 ty 3 _ _ _ _ _ _ Try.underlying24 int_size (Nat.min_zero _)
  · rw [if_neg h0]
    have q := copy_paste (k := A) (n := L) (l := l) ho hi' (by rw [hd]; omega) ty (m - A) (e - C)
    rw [hd, Nat.min_eq_right (by omega)] at q
    have e1 : (some (⟨g, 0, none⟩ : Addr)).map (·.add (A * 1)) = some ⟨g, A, none⟩ := by
      by_cases hA0 : A = 0 <;> simp [Addr.add, hA0]
    rw [e1]
    exact q
end Go.Proofs.Ytcpgdhffemecbaa
namespace Go.Proofs.Ytcpgdhffemecbaa
set_option linter.unusedVariables false
/-- How often row i is told. -/
def often (d : List Int) (i : Nat) : Int := d.getD (i % d.length) 0
def tot (d : List Int) : Nat → Int
  | 0 => 0
  | n + 1 => tot d n + often d n
def copyC (s d t e : List Int) : Int := if arrOk s d = true ∧ arrOk t e = true then (if 1 < s.length ∨ t = [] then 4 else if d.length ≠ 1 ∧ (d.length : Int) ≠ t.getD 0 0 then 3 else if d.any (fun x => decide (x < 0)) = true then 2 else if sizeV (tot d (rowsN t) :: t.drop 1) < 0 then 6 else 0) else 1
/-- The rows of the first numbers, each as often as told. -/
def toldTo (d : List Int) (f : Nat → List Int) : Nat → List Int
  | 0 => []
  | n + 1 => toldTo d f n ++ (List.replicate (often d n).toNat (f n)).flatten
def copyD (d t e : List Int) : List Int := toldTo d (fun i => rowAt t e i) (rowsN t)
def copyR (s d t e : List Int) : Int × List Int × List Int := mkR (copyC s d t e) (tot d (rowsN t) :: t.drop 1) (copyD d t e)
theorem copyR_bad {s d t e : List Int} (h : ¬ (arrOk s d = true ∧ arrOk t e = true)) : copyR s d t e = (1, [], []) := by
  unfold copyR; rw [show copyC s d t e = 1 from by unfold copyC; rw [if_neg h]]; rfl
theorem copyR_told {s d t e : List Int} (h1 : arrOk s d = true) (h2 : arrOk t e = true) :
    copyR s d t e = if 1 < s.length ∨ t = [] then (4, [], []) else if d.length ≠ 1 ∧ (d.length : Int) ≠ t.getD 0 0 then (3, [], []) else if d.any (fun x => decide (x < 0)) = true then (2, [], []) else if sizeV (tot d (rowsN t) :: t.drop 1) < 0 then (6, [], []) else (0, tot d (rowsN t) :: t.drop 1, copyD d t e) := by
  unfold copyR copyC
  rw [if_pos ⟨h1, h2⟩]
  split
  · rfl
  · split
    · rfl
    · split
      · rfl
      · split <;> rfl
theorem often_bd {s d : List Int} (ho : arrOk s d = true) (hn : ∀ j, j < d.length → 0 ≤ d.getD j 0) (i : Nat) : 0 ≤ often d i ∧ often d i ≤ 1000000000000 := by
  unfold often
  by_cases h : i % d.length < d.length
  · have hk : ok (d.getD (i % d.length) 0) = true := by
      unfold arrOk at ho
      rw [Bool.and_eq_true, List.all_eq_true] at ho
      exact ho.2 _ (by simp [h])
    exact ⟨hn _ h, (ok_bd hk).2⟩
  · have e : d.getD (i % d.length) 0 = 0 := by simp [List.getD, List.getElem?_eq_none (show d.length ≤ i % d.length by omega)]
    rw [e]
    omega
theorem tot_bd {s d : List Int} (ho : arrOk s d = true) (hn : ∀ j, j < d.length → 0 ≤ d.getD j 0) (i : Nat) : 0 ≤ tot d i ∧ tot d i ≤ i * 1000000000000 := by
  induction i with
  | zero => exact ⟨Int.le_refl _, by simp [tot]⟩
  | succ i ih =>
    have := often_bd ho hn i
    unfold tot
    push_cast
    omega
theorem tot_mono {s d : List Int} (ho : arrOk s d = true) (hn : ∀ j, j < d.length → 0 ≤ d.getD j 0) {i n : Nat} (h : i ≤ n) : tot d i ≤ tot d n := by
  induction n with
  | zero => obtain rfl : i = 0 := by omega
            exact Int.le_refl _
  | succ n ih =>
    by_cases e : i = n + 1
    · subst e; exact Int.le_refl _
    · have := ih (by omega)
      have := often_bd ho hn n
      show tot d i ≤ tot d n + often d n
      omega
theorem told_len {s d : List Int} (ho : arrOk s d = true) (hn : ∀ j, j < d.length → 0 ≤ d.getD j 0) (f : Nat → List Int) (m : Nat) (hf : ∀ i, (f i).length ≤ m) (i : Nat) : ((toldTo d f i).length : Int) ≤ tot d i * m := by
  induction i with
  | zero => simp [toldTo, tot]
  | succ i ih =>
    have hb := often_bd ho hn i
    unfold toldTo tot
    rw [List.length_append, Int.add_mul]
    have e : ((List.replicate (often d i).toNat (f i)).flatten.length : Int) = often d i * ((f i).length : Int) := by
      rw [List.length_flatten]
      simp
      rw [Int.max_eq_left hb.1]
    have h2 : often d i * ((f i).length : Int) ≤ often d i * (m : Int) := Int.mul_le_mul_of_nonneg_left (by have := hf i; omega) hb.1
    push_cast
    omega
theorem told_ext {d : List Int} {f g : Nat → List Int} {n : Nat} (h : ∀ i, i < n → f i = g i) : toldTo d f n = toldTo d g n := by
  induction n with
  | zero => rfl
  | succ n ih =>
    unfold toldTo
    rw [ih (fun i hi => h i (by omega)), h n (by omega)]
theorem big_shape {x : Int} {u : List Int} (h : 300 < x) : sizeV (x :: u) < 0 := by
  unfold sizeV
  split
  · decide
  · rw [if_neg (by simp [dimOk]; omega)]; decide
end Go.Proofs.Ytcpgdhffemecbaa
namespace Go.Proofs.Ytcpgdhffemecbaa
set_option linter.unusedVariables false
def sumL (l : List Int) : Nat → Int
  | 0 => 0
  | n + 1 => sumL l n + l.getD n 0
/-- Each place of a list as often as its number tells. -/
def toldP (l : List Int) : Nat → List Int
  | 0 => []
  | n + 1 => toldP l n ++ List.replicate (l.getD n 0).toNat (n : Int)
theorem again_often {d : List Int} {n i : Nat} (h : i < n) : (againD d n).getD i 0 = often d i := by
  unfold againD often
  by_cases e : d = []
  · simp [e, h]
  · simp [e, h]
theorem again_len (d : List Int) (n : Nat) : (againD d n).length = n := by simp [againD]
theorem sumL_tot {d : List Int} {n : Nat} : ∀ {k : Nat}, k ≤ n → sumL (againD d n) k = tot d k := by
  intro k
  induction k with
  | zero => intro _; rfl
  | succ k ih =>
    intro h
    show sumL (againD d n) k + (againD d n).getD k 0 = tot d k + often d k
    rw [ih (by omega), again_often (by omega)]
theorem told_rows {d : List Int} {n : Nat} (g : Nat → List Int) : ∀ {k : Nat}, k ≤ n → (toldP (againD d n) k).flatMap (fun x => g x.toNat) = toldTo d g k := by
  intro k
  induction k with
  | zero => intro _; rfl
  | succ k ih =>
    intro h
    show (toldP (againD d n) k ++ List.replicate ((againD d n).getD k 0).toNat (k : Int)).flatMap _ = toldTo d g k ++ (List.replicate (often d k).toNat (g k)).flatten
    rw [List.flatMap_append, ih (by omega), again_often (by omega)]
    congr 1
    rw [List.flatMap_def, List.map_replicate]
    rfl
theorem toldP_len {l : List Int} (h : ∀ j, j < l.length → 0 ≤ l.getD j 0) : ∀ {k : Nat}, k ≤ l.length → ((toldP l k).length : Int) = sumL l k := by
  intro k
  induction k with
  | zero => intro _; rfl
  | succ k ih =>
    intro hk
    show (((toldP l k) ++ List.replicate (l.getD k 0).toNat (k : Int)).length : Int) = sumL l k + l.getD k 0
    rw [List.length_append, List.length_replicate]
    have := h k (by omega)
    have := ih (by omega)
    push_cast
    omega
theorem toldP_mem {l : List Int} : ∀ {k : Nat} {x : Int}, x ∈ toldP l k → 0 ≤ x ∧ x < k := by
  intro k
  induction k with
  | zero => intro x h; cases h
  | succ k ih =>
    intro x h
    have h' : x ∈ toldP l k ++ List.replicate (l.getD k 0).toNat (k : Int) := h
    rw [List.mem_append] at h'
    rcases h' with h' | h'
    · have := ih h'; omega
    · have := List.eq_of_mem_replicate h'; omega
theorem range_getD (P : List Int) (g : Int → List Int) : (List.range P.length).flatMap (fun i => g (P.getD i 0)) = P.flatMap g := by
  rw [List.flatMap_def, List.flatMap_def]
  congr 1
  apply List.ext_getElem
  · simp
  · intro i h1 h2
    simp at h1
    simp [h1]
theorem flatMap_mem {P : List Int} {g h : Int → List Int} (q : ∀ x, x ∈ P → g x = h x) : P.flatMap g = P.flatMap h := by
  rw [List.flatMap_def, List.flatMap_def, List.map_congr_left q]
/-- The rows that are chosen by what is told are what Copy answers. -/
theorem copy_chosen {d t e : List Int} (h2 : arrOk t e = true) : chosenD t e (fun k => (toldP (againD d (rowsN t)) (rowsN t)).getD k 0) (toldP (againD d (rowsN t)) (rowsN t)).length = copyD d t e := by
  obtain ⟨e1, e2⟩ := rowsN5 h2
  unfold chosenD copyD
  rw [range_getD _ (fun x => chosenRow t e x), ← told_rows (n := rowsN t) (fun i => rowAt t e i) (Nat.le_refl _)]
  refine flatMap_mem (fun x hx => ?_)
  have := toldP_mem hx
  unfold chosenRow
  rw [if_pos ⟨by omega, by omega⟩]
theorem any_below {d : List Int} : d.any (fun x => decide (x < 0)) = false ↔ ∀ j, j < d.length → 0 ≤ d.getD j 0 := by
  constructor
  · intro h j hj
    rw [List.any_eq_false] at h
    have := h (d.getD j 0) (by simp [hj])
    simpa using this
  · intro h
    rw [List.any_eq_false]
    intro y hy
    obtain ⟨j, hj, rfl⟩ := List.getElem_of_mem hy
    have := h j hj
    rw [List.getD_eq_getElem?_getD, List.getElem?_eq_getElem hj] at this
    simpa using this
theorem copyC_zero {s d t e : List Int} (h : copyC s d t e = 0) : arrOk s d = true ∧ arrOk t e = true ∧ t ≠ [] ∧ (∀ j, j < d.length → 0 ≤ d.getD j 0) ∧ 0 ≤ sizeV (tot d (rowsN t) :: t.drop 1) := by
  unfold copyC at h
  by_cases q : arrOk s d = true ∧ arrOk t e = true
  · rw [if_pos q] at h
    by_cases q2 : 1 < s.length ∨ t = []
    · rw [if_pos q2] at h; cases h
    · rw [if_neg q2] at h
      by_cases q3 : d.length ≠ 1 ∧ (d.length : Int) ≠ t.getD 0 0
      · rw [if_pos q3] at h; cases h
      · rw [if_neg q3] at h
        by_cases q4 : d.any (fun x => decide (x < 0)) = true
        · rw [if_pos q4] at h; cases h
        · rw [if_neg q4] at h
          by_cases q5 : sizeV (tot d (rowsN t) :: t.drop 1) < 0
          · rw [if_pos q5] at h; cases h
          · exact ⟨q.1, q.2, fun k => q2 (.inr k), any_below.1 (by simpa using q4), by omega⟩
  · rw [if_neg q] at h; cases h
theorem copy_len {s d t e : List Int} (h : copyC s d t e = 0) : (tot d (rowsN t) :: t.drop 1).length ≤ 1048576 ∧ (copyD d t e).length ≤ 1048576 := by
  obtain ⟨h1, h2, h3, h4, h5⟩ := copyC_zero h
  have e2 := arrOk_len h2
  have e3 := (sizeV_ok h5).1
  have e4 := dim5 h5
  constructor
  · omega
  · have := told_len h1 h4 (fun i => rowAt t e i) 300 (fun i => by unfold rowAt; rw [List.length_take, List.length_drop]; omega) (rowsN t)
    have h6 : tot d (rowsN t) * ((300 : Nat) : Int) ≤ 300 * 300 := Int.mul_le_mul_of_nonneg_right e4.2 (by decide)
    unfold copyD
    omega
end Go.Proofs.Ytcpgdhffemecbaa
namespace Go.Proofs.Ytcpgdhffemecbaa
open Go.RowKit
set_option linter.unusedVariables false
set_option linter.unusedSimpArgs false
theorem sumL_bd {l : List Int} (h : ∀ j, j < l.length → 0 ≤ l.getD j 0 ∧ l.getD j 0 ≤ 1000000000000) : ∀ {k : Nat}, k ≤ l.length → 0 ≤ sumL l k ∧ sumL l k ≤ k * 1000000000000 := by
  intro k
  induction k with
  | zero => intro _; exact ⟨Int.le_refl _, by simp [sumL]⟩
  | succ k ih =>
    intro hk
    have h1 := h k (by omega)
    have h2 := ih (by omega)
    show 0 ≤ sumL l k + l.getD k 0 ∧ sumL l k + l.getD k 0 ≤ _
    push_cast
    omega
/-- A list of no number, with room. -/
theorem make0_ints (n : Nat) (hn : n ≤ 1073741824) (w : World) :
    ∃ w', (Instr.makeSlice 24 (.int .i64 0) (.int .i64 (n : Int))).run Try.prog w = .ok (.slice (some ⟨w.heap.size, 0, none⟩) 0 n) w' ∧ NewInts w.heap.size w' (.slice (some ⟨w.heap.size, 0, none⟩) 0 n) [] ∧ Below w.heap.size w w' := by
  have hi := info_int
  cases hq : Try.prog.info? 3 with
  | none => rw [hq] at hi; cases hi
  | some i =>
    rw [hq] at hi
    simp at hi
    obtain ⟨z1, z2, z3⟩ := hi
    have := run_make (P := Try.prog) w 24 3 i (.int .i64 0) Try.underlying24 hq z1 .i64 .i64 0 n (by omega) (by omega) (by rw [z3]; omega) (by omega)
    rw [z2, Int.toNat_natCast, Nat.mul_one] at this
    refine ⟨_, this, ⟨rfl, .inr ⟨w.heap.size, n, _, rfl, Nat.le_refl _, heap_alloc_new w _, Nat.zero_le _, by unfold maxLen; omega, ?_, by simp⟩⟩, bAlloc (Below.refl _ _) _⟩
    rw [made_zero]
    simp [vals]
end Go.Proofs.Ytcpgdhffemecbaa
namespace Go.Proofs.Ytcpgdhffemecbaa
open Go.RowKit
end Go.Proofs.Ytcpgdhffemecbaa
namespace Go.Proofs.Ytcpgdhffemecbaa
open Go.RowKit
theorem ret_int {k : IntKind} {a b : Int} (h : a = b) : Ending.returned (.int k a) = .returned (.int k b) := by rw [h]
theorem ret_two {a b c d : Int} (h : a = b) (h' : c = d) : Ending.returned (.tuple #[.int .i64 a, .int .i64 c]) = .returned (.tuple #[.int .i64 b, .int .i64 d]) := by rw [h, h']

set_option maxHeartbeats 400000 in
theorem roundedDown_impl (a b : Int) (hb : b ≠ 0) (a1 : -1000000000000 ≤ a) (a2 : a ≤ 1000000000000) (b1 : -1000000000000 ≤ b) (b2 : b ≤ 1000000000000) (w : World) :
    Calls Try.prog 123 #[.int .i64 a, .int .i64 b] w fun e w' => e = .returned (.int .i64 (flo a b)) ∧ w' = w := by
  have ht := tdiv_bd (b := b) a1 a2
  have _ := b1
  have _ := b2
  have hg := flo_go a b hb
  have HG : Hid (flo a b = if a.tmod b ≠ 0 ∧ (decide (a < 0) != decide (b < 0)) = true then a.tdiv b - 1 else a.tdiv b) := hg
  clear hg
  obtain ⟨t1, t2⟩ := ht
  go_enter Try.func123, Try.ntmps123
  go_wp2
  all_goals
    go_ret
    refine ⟨ret_int ?_, rfl⟩
    rw [HG.out]
    simp_all [bne]
set_option maxHeartbeats 400000 in
theorem digits_impl (x : Int) (h1 : -1000000000000 ≤ x) (h2 : x ≤ 1000000000000) (w : World) :
    Calls Try.prog 122 #[.int .i64 x] w fun e w' => e = .returned (.int .i64 (bits x.natAbs)) ∧ w' = w := by
  have hm := mag_bd h1 h2
  go_enter Try.func122, Try.ntmps122
  go_wp2_with (go_at_call 129; refine (withoutSign_impl _ h1 h2 _).mono ?_; rintro e w' ⟨rfl, rfl⟩)
  go_loop [3, 4] (fun n r => ∃ (k m : Nat), k + bits m = bits x.natAbs ∧ m ≤ 1000000000000 ∧ n = .int .i64 k ∧ r = .int .i64 m) (fun _ r => (intOf r).toNat)
  case atStart => exact ⟨0, x.natAbs, by omega, by omega, rfl, by rw [mag_abs]⟩
  case round =>
    obtain ⟨k, m, hk, hmm, rfl, rfl⟩ := hrel
    have hs := bits_small hmm
    have hx := bits_small (show x.natAbs ≤ 1000000000000 by omega)
    by_cases hp : 0 < m
    · have hb := bits_pos hp
      have HB : Hid (bits m = bits (m / 2) + 1) := hb
      have HK : Hid (k + bits m = bits x.natAbs) := hk
      have hkb : k ≤ 40 := by omega
      clear hb hk
      go_wp2
      go_round
      case rel => exact ⟨k + 1, m / 2, by have := HB.out; have := HK.out; omega, by omega, by go_num, by go_num⟩
      case measure => simp [intOf]; omega
    · obtain rfl : m = 0 := by omega
      go_wp2
      go_ret
      exact ⟨ret_int (by rw [bits_zero] at hk; omega), rfl⟩
theorem digits_top (w : World) : Calls Try.prog 122 #[.int .i64 1000000000000] w fun e w' => e = .returned (.int .i64 40) ∧ w' = w := by
  refine (digits_impl 1000000000000 (by decide) (by decide) w).mono ?_
  rintro e w' ⟨rfl, rfl⟩
  refine ⟨ret_int ?_, rfl⟩
  have : (1000000000000 : Int).natAbs = 1000000000000 := rfl
  rw [this, bits_top]; rfl
set_option maxHeartbeats 400000 in
theorem oneIf_impl (b : Bool) (w : World) : Calls Try.prog 124 #[.bool b] w fun e w' => e = .returned (.int .i64 (bit b)) ∧ w' = w := by
  cases b <;> (go_enter Try.func124, Try.ntmps124; go_wp2; go_ret; exact ⟨rfl, rfl⟩)
set_option maxHeartbeats 400000 in
theorem rol_impl (x : Int) (w : World) : Calls Try.prog 59 #[.int .i64 x, .int .i64 0] w fun e w' => e = .returned (.tuple #[.int .i64 (limV x), .int .i64 (limC x)]) ∧ w' = w := by
  by_cases h : ok x = true
  · go_enter Try.func59, Try.ntmps59
    go_wp2_with (go_at_call 57; refine (numOk_impl _ _).mono ?_; rintro e w' ⟨rfl, rfl⟩)
    go_ret2
    exact ⟨ret_two (lim_yes h).1.symm (lim_yes h).2.symm, rfl⟩
  · have h : ok x = false := by simpa using h
    go_enter Try.func59, Try.ntmps59
    go_wp2_with (go_at_call 57; refine (numOk_impl _ _).mono ?_; rintro e w' ⟨rfl, rfl⟩)
    go_ret2
    exact ⟨ret_two (lim_no h).1.symm (lim_no h).2.symm, rfl⟩
set_option maxHeartbeats 400000 in
theorem rol_code (x c : Int) (hc : (c == 0) = false) (w : World) : Calls Try.prog 59 #[.int .i64 x, .int .i64 c] w fun e w' => e = .returned (.tuple #[.int .i64 0, .int .i64 c]) ∧ w' = w := by
  go_enter Try.func59, Try.ntmps59
  go_wp2
  go_ret2
  exact ⟨rfl, rfl⟩
set_option maxHeartbeats 400000 in
theorem sum_impl (a b : Int) (a1 : -1000000000000 ≤ a) (a2 : a ≤ 1000000000000) (b1 : -1000000000000 ≤ b) (b2 : b ≤ 1000000000000) (w : World) : Calls Try.prog 99 #[.int .i64 a, .int .i64 b] w fun e w' => e = .returned (.tuple #[.int .i64 (a + b), .int .i64 0]) ∧ w' = w := by
  go_enter Try.func99, Try.ntmps99
  go_wp2
  go_ret2
  exact ⟨rfl, rfl⟩
set_option maxHeartbeats 400000 in
theorem difference_impl (a b : Int) (a1 : -1000000000000 ≤ a) (a2 : a ≤ 1000000000000) (b1 : -1000000000000 ≤ b) (b2 : b ≤ 1000000000000) (w : World) : Calls Try.prog 100 #[.int .i64 a, .int .i64 b] w fun e w' => e = .returned (.tuple #[.int .i64 (a - b), .int .i64 0]) ∧ w' = w := by
  go_enter Try.func100, Try.ntmps100
  go_wp2
  go_ret2
  exact ⟨rfl, rfl⟩
set_option maxHeartbeats 400000 in
theorem isEqual_impl (a b : Int) (w : World) : Calls Try.prog 106 #[.int .i64 a, .int .i64 b] w fun e w' => e = .returned (.tuple #[.int .i64 (bit (a == b)), .int .i64 0]) ∧ w' = w := by
  go_enter Try.func106, Try.ntmps106
  go_wp2_with (go_at_call 124; refine (oneIf_impl _ _).mono ?_; rintro e w' ⟨rfl, rfl⟩)
  go_ret2
  exact ⟨rfl, rfl⟩
set_option maxHeartbeats 400000 in
theorem isBelow_impl (a b : Int) (w : World) : Calls Try.prog 107 #[.int .i64 a, .int .i64 b] w fun e w' => e = .returned (.tuple #[.int .i64 (bit (decide (a < b))), .int .i64 0]) ∧ w' = w := by
  go_enter Try.func107, Try.ntmps107
  go_wp2_with (go_at_call 124; refine (oneIf_impl _ _).mono ?_; rintro e w' ⟨rfl, rfl⟩)
  go_ret2
  exact ⟨rfl, rfl⟩
set_option maxHeartbeats 400000 in
theorem isAbove_impl (a b : Int) (w : World) : Calls Try.prog 108 #[.int .i64 a, .int .i64 b] w fun e w' => e = .returned (.tuple #[.int .i64 (bit (decide (b < a))), .int .i64 0]) ∧ w' = w := by
  go_enter Try.func108, Try.ntmps108
  go_wp2_with (go_at_call 124; refine (oneIf_impl _ _).mono ?_; rintro e w' ⟨rfl, rfl⟩)
  go_ret2
  exact ⟨rfl, rfl⟩
set_option maxHeartbeats 400000 in
theorem lesser_impl (a b : Int) (w : World) : Calls Try.prog 104 #[.int .i64 a, .int .i64 b] w fun e w' => e = .returned (.tuple #[.int .i64 (mn a b), .int .i64 0]) ∧ w' = w := by
  go_enter Try.func104, Try.ntmps104
  go_wp2
  all_goals
    go_ret2
    exact ⟨ret_two (by unfold mn; split <;> omega) rfl, rfl⟩
set_option maxHeartbeats 400000 in
theorem greater_impl (a b : Int) (w : World) : Calls Try.prog 105 #[.int .i64 a, .int .i64 b] w fun e w' => e = .returned (.tuple #[.int .i64 (mx a b), .int .i64 0]) ∧ w' = w := by
  go_enter Try.func105, Try.ntmps105
  go_wp2
  all_goals
    go_ret2
    exact ⟨ret_two (by unfold mx; split <;> omega) rfl, rfl⟩
set_option maxHeartbeats 400000 in
theorem quotient_impl0 (a : Int) (w : World) : Calls Try.prog 102 #[.int .i64 a, .int .i64 0] w fun e w' => e = .returned (.tuple #[.int .i64 0, .int .i64 2]) ∧ w' = w := by
  go_enter Try.func102, Try.ntmps102
  go_wp2
  go_ret2
  exact ⟨rfl, rfl⟩
set_option maxHeartbeats 400000 in
theorem quotient_impl (a b : Int) (hb : b ≠ 0) (a1 : -1000000000000 ≤ a) (a2 : a ≤ 1000000000000) (b1 : -1000000000000 ≤ b) (b2 : b ≤ 1000000000000) (w : World) : Calls Try.prog 102 #[.int .i64 a, .int .i64 b] w fun e w' => e = .returned (.tuple #[.int .i64 (flo a b), .int .i64 0]) ∧ w' = w := by
  have hb' : (b == 0) = false := by simpa using hb
  go_enter Try.func102, Try.ntmps102
  go_wp2_with (go_at_call 123; refine (roundedDown_impl _ _ hb a1 a2 b1 b2 _).mono ?_; rintro e w' ⟨rfl, rfl⟩)
  go_ret2
  exact ⟨rfl, rfl⟩
set_option maxHeartbeats 400000 in
theorem remainder_impl0 (b : Int) (w : World) : Calls Try.prog 103 #[.int .i64 0, .int .i64 b] w fun e w' => e = .returned (.tuple #[.int .i64 b, .int .i64 0]) ∧ w' = w := by
  go_enter Try.func103, Try.ntmps103
  go_wp2
  go_ret2
  exact ⟨rfl, rfl⟩
set_option maxHeartbeats 400000 in
theorem remainder_impl (a b : Int) (ha : a ≠ 0) (a1 : -1000000000000 ≤ a) (a2 : a ≤ 1000000000000) (b1 : -1000000000000 ≤ b) (b2 : b ≤ 1000000000000) (w : World) : Calls Try.prog 103 #[.int .i64 a, .int .i64 b] w fun e w' => e = .returned (.tuple #[.int .i64 (rst b a), .int .i64 0]) ∧ w' = w := by
  have ha' : (a == 0) = false := by simpa using ha
  have he : Hid (b - a * flo b a = rst b a) := rst_eq b a
  have hr := rst_bd (a := b) ha a1 a2
  have p1 : -2000000000000 ≤ a * flo b a := by have := he.out; omega
  have p2 : a * flo b a ≤ 2000000000000 := by have := he.out; omega
  clear hr
  go_enter Try.func103, Try.ntmps103
  go_wp2_with (go_at_call 123; refine (roundedDown_impl _ _ ha b1 b2 a1 a2 _).mono ?_; rintro e w' ⟨rfl, rfl⟩)
  go_ret2
  exact ⟨ret_two he.out rfl, rfl⟩
set_option maxHeartbeats 400000 in
theorem product_impl1 (a b : Int) (a1 : -1000000000000 ≤ a) (a2 : a ≤ 1000000000000) (b1 : -1000000000000 ≤ b) (b2 : b ≤ 1000000000000) (h : 41 < bits a.natAbs + bits b.natAbs) (w : World) : Calls Try.prog 101 #[.int .i64 a, .int .i64 b] w fun e w' => e = .returned (.tuple #[.int .i64 0, .int .i64 6]) ∧ w' = w := by
  have A1 := bits_small (show a.natAbs ≤ 1000000000000 by omega)
  have A2 := bits_small (show b.natAbs ≤ 1000000000000 by omega)
  have h' : (40 : Int) < (bits a.natAbs : Int) + (bits b.natAbs : Int) - 1 := by omega
  go_enter Try.func101, Try.ntmps101
  go_wp2_with fail
  refine (digits_impl a a1 a2 _).mono ?_
  rintro e w' ⟨rfl, rfl⟩
  go_wp2_with fail
  refine (digits_impl b b1 b2 _).mono ?_
  rintro e w' ⟨rfl, rfl⟩
  go_wp2_with fail
  refine (digits_top _).mono ?_
  rintro e w' ⟨rfl, rfl⟩
  go_wp2
  go_ret2
  exact ⟨rfl, rfl⟩
set_option maxHeartbeats 400000 in
theorem product_impl2 (a b : Int) (a1 : -1000000000000 ≤ a) (a2 : a ≤ 1000000000000) (b1 : -1000000000000 ≤ b) (b2 : b ≤ 1000000000000) (h : bits a.natAbs + bits b.natAbs ≤ 41) (w : World) : Calls Try.prog 101 #[.int .i64 a, .int .i64 b] w fun e w' => e = .returned (.tuple #[.int .i64 (a * b), .int .i64 0]) ∧ w' = w := by
  have A1 := bits_small (show a.natAbs ≤ 1000000000000 by omega)
  have A2 := bits_small (show b.natAbs ≤ 1000000000000 by omega)
  have h' : ¬ (40 : Int) < (bits a.natAbs : Int) + (bits b.natAbs : Int) - 1 := by omega
  obtain ⟨p1, p2⟩ := prod_small h
  go_enter Try.func101, Try.ntmps101
  go_wp2_with fail
  refine (digits_impl a a1 a2 _).mono ?_
  rintro e w' ⟨rfl, rfl⟩
  go_wp2_with fail
  refine (digits_impl b b1 b2 _).mono ?_
  rintro e w' ⟨rfl, rfl⟩
  go_wp2_with fail
  refine (digits_top _).mono ?_
  rintro e w' ⟨rfl, rfl⟩
  go_wp2
  go_ret2
  exact ⟨rfl, rfl⟩

def cellsTwo : Array Value := #[.int .i64 43, .func (.func 99) #[] #[], .int .i64 45, .func (.func 100) #[] #[], .int .i64 42, .func (.func 101) #[] #[], .int .i64 37, .func (.func 102) #[] #[], .int .i64 124, .func (.func 103) #[] #[], .int .i64 38, .func (.func 104) #[] #[], .int .i64 94, .func (.func 105) #[] #[], .int .i64 61, .func (.func 106) #[] #[], .int .i64 60, .func (.func 107) #[] #[], .int .i64 62, .func (.func 108) #[] #[]]
def zerosTwo : Array Value := #[.int .i64 0, .nilFunc, .int .i64 0, .nilFunc, .int .i64 0, .nilFunc, .int .i64 0, .nilFunc, .int .i64 0, .nilFunc, .int .i64 0, .nilFunc, .int .i64 0, .nilFunc, .int .i64 0, .nilFunc, .int .i64 0, .nilFunc, .int .i64 0, .nilFunc]
def rulesTwo : Value := .agg cellsTwo
theorem cellsTwo_one : cellsTwo.all (·.oneCell') = true := by kernel_rfl
theorem modify_push {α : Type} (xs : Array α) (o p : α) (f : α → α) (hf : f o = p) : (xs.push o).modify xs.size f = xs.push p := by
  apply Array.ext
  · simp
  · intro i h1 h2
    rw [Array.getElem_modify]
    simp only [Array.getElem_push]
    by_cases e : i < xs.size
    · simp [e, show ¬ xs.size = i by omega]
    · have : xs.size = i := by simp at h2; omega
      simp [this, hf]
theorem setRow_alloc (w : World) (old cs : Array Value) (t : TypeId) : (w.alloc (.cells old t)).setRow w.heap.size cs = w.alloc (.cells cs t) := by
  unfold World.setRow
  rw [show (w.alloc (.cells old t)).heap = w.heap.push (.cells old t) from rfl, modify_push _ _ (.cells cs t) _ rfl]
  rfl
set_option maxHeartbeats 400000 in
theorem twoRules_impl (w : World) : Calls Try.prog 58 #[] w fun e w' => e = .returned rulesTwo ∧ ∃ c : Array Value, w' = w.alloc (.cells c 78) := by
  have hg : (w.alloc (.cells zerosTwo 78)).heap[w.heap.size]? = some (.cells zerosTwo 78 (0, 0)) := heap_alloc_new w _
  go_enter Try.func58, Try.ntmps58
  go_wp2_with (refine wpList_store_row rfl 78 _ _ rfl w.heap.size cellsTwo rfl rfl 78 zerosTwo hg (by kernel_rfl) rfl cellsTwo_one ?_)
  refine bodyPost_ret (v := rulesTwo) ?_ rfl ⟨rfl, cellsTwo, setRow_alloc _ _ _ _⟩
  exact results_cell_row Try.results58 _ _ w.heap.size 78 cellsTwo (0, 0) _ rfl (setRow_heap _ _ zerosTwo _ _ _ hg) Try.underlying78 rfl (by kernel_rfl)
theorem ixTwo0 (w : World) : (Instr.index 78 rulesTwo (.int .i64 0)).run Try.prog w = .ok (.agg #[.int .i64 43, .func (.func 99) #[] #[]]) w := by kernel_rfl
theorem ixTwo1 (w : World) : (Instr.index 78 rulesTwo (.int .i64 1)).run Try.prog w = .ok (.agg #[.int .i64 45, .func (.func 100) #[] #[]]) w := by kernel_rfl
theorem ixTwo2 (w : World) : (Instr.index 78 rulesTwo (.int .i64 2)).run Try.prog w = .ok (.agg #[.int .i64 42, .func (.func 101) #[] #[]]) w := by kernel_rfl
theorem ixTwo3 (w : World) : (Instr.index 78 rulesTwo (.int .i64 3)).run Try.prog w = .ok (.agg #[.int .i64 37, .func (.func 102) #[] #[]]) w := by kernel_rfl
theorem ixTwo4 (w : World) : (Instr.index 78 rulesTwo (.int .i64 4)).run Try.prog w = .ok (.agg #[.int .i64 124, .func (.func 103) #[] #[]]) w := by kernel_rfl
theorem ixTwo5 (w : World) : (Instr.index 78 rulesTwo (.int .i64 5)).run Try.prog w = .ok (.agg #[.int .i64 38, .func (.func 104) #[] #[]]) w := by kernel_rfl
theorem ixTwo6 (w : World) : (Instr.index 78 rulesTwo (.int .i64 6)).run Try.prog w = .ok (.agg #[.int .i64 94, .func (.func 105) #[] #[]]) w := by kernel_rfl
theorem ixTwo7 (w : World) : (Instr.index 78 rulesTwo (.int .i64 7)).run Try.prog w = .ok (.agg #[.int .i64 61, .func (.func 106) #[] #[]]) w := by kernel_rfl
theorem ixTwo8 (w : World) : (Instr.index 78 rulesTwo (.int .i64 8)).run Try.prog w = .ok (.agg #[.int .i64 60, .func (.func 107) #[] #[]]) w := by kernel_rfl
theorem ixTwo9 (w : World) : (Instr.index 78 rulesTwo (.int .i64 9)).run Try.prog w = .ok (.agg #[.int .i64 62, .func (.func 108) #[] #[]]) w := by kernel_rfl
end Go.Proofs.Ytcpgdhffemecbaa
namespace Go.Proofs.Ytcpgdhffemecbaa
open Go.RowKit
/-- The signs, by their places in the program's own table. -/
def sg (k : Nat) : Int := [43, 45, 42, 37, 124, 38, 94, 61, 60, 62].getD k 0
theorem sg_none {s : Int} (h : ∀ j, j < 10 → sg j ≠ s) : sign2 s = false := by
  have h0 := h 0 (by omega); have h1 := h 1 (by omega); have h2 := h 2 (by omega); have h3 := h 3 (by omega); have h4 := h 4 (by omega)
  have h5 := h 5 (by omega); have h6 := h 6 (by omega); have h7 := h 7 (by omega); have h8 := h 8 (by omega); have h9 := h 9 (by omega)
  simp [sg] at h0 h1 h2 h3 h4 h5 h6 h7 h8 h9
  simp [sign2]; omega
theorem sg_next {s : Int} {k : Nat} (h : ∀ j, j < k → sg j ≠ s) (hk : sg k ≠ s) : ∀ j, j < k + 1 → sg j ≠ s := by
  intro j hj
  by_cases e : j = k
  · subst e; exact hk
  · exact h j (by omega)
set_option maxHeartbeats 4000000 in
theorem two_right (s a b : Int) (a1 : -1000000000000 ≤ a) (a2 : a ≤ 1000000000000) (b1 : -1000000000000 ≤ b) (b2 : b ≤ 1000000000000) (w : World) :
    Calls Try.prog 19 #[.int .i64 s, .int .i64 a, .int .i64 b] w fun e w' => e = .returned (.tuple #[.int .i64 (twoV s a b).1, .int .i64 (twoV s a b).2]) ∧ Below w.heap.size w w' := by
  have ka := ok_mk a1 a2
  have kb := ok_mk b1 b2
  go_enter Try.func19, Try.ntmps19
  go_wp2_with (first | (go_at_call 57; refine (numOk_impl _ _).mono ?_; rintro e w' ⟨rfl, hw⟩; subst w') | (go_at_call 58; refine (twoRules_impl _).mono ?_; rintro e w' ⟨rfl, c, rfl⟩))
  go_loopw [21] (fun i w' => ∃ k : Nat, k ≤ 10 ∧ i = .int .i64 k ∧ (∀ j, j < k → sg j ≠ s) ∧ Below w.heap.size w w') (fun i _ => 10 - (intOf i).toNat)
  case atStart => exact ⟨0, by omega, rfl, by omega, bAlloc (Below.refl _ _) _⟩
  case round =>
    obtain ⟨k, hk, rfl, hs, hG⟩ := hrel
    have HS : Hid (∀ j, j < k → sg j ≠ s) := hs
    clear hs
    have hk11 : k = 0 ∨ k = 1 ∨ k = 2 ∨ k = 3 ∨ k = 4 ∨ k = 5 ∨ k = 6 ∨ k = 7 ∨ k = 8 ∨ k = 9 ∨ k = 10 := by omega
    rcases hk11 with rfl | rfl | rfl | rfl | rfl | rfl | rfl | rfl | rfl | rfl | rfl
    · have ik := ixTwo0
      by_cases e : s = 43
      · subst e
        go_wp2_with (first | (go_at_call 99; refine (sum_impl _ _ a1 a2 b1 b2 _).mono ?_; rintro e w' ⟨rfl, hw⟩; subst w') | (go_at_call 59; refine (rol_impl _ _).mono ?_; rintro e w' ⟨rfl, hw⟩; subst w'))
        go_ret2
        exact ⟨ret_two (by rw [twoV_43 ka kb]) (by rw [twoV_43 ka kb]), by repeat (first | exact hG | apply bAlloc)⟩
      · have en : ((43 : Int) == s) = false := by simp; omega
        clear e
        go_wp2
        go_roundw
        case rel => exact ⟨1, by omega, rfl, sg_next HS.out (by simp at en; simpa [sg] using en), by repeat (first | exact hG | apply bAlloc)⟩
        case measure => simp [intOf]
    · have ik := ixTwo1
      by_cases e : s = 45
      · subst e
        go_wp2_with (first | (go_at_call 100; refine (difference_impl _ _ a1 a2 b1 b2 _).mono ?_; rintro e w' ⟨rfl, hw⟩; subst w') | (go_at_call 59; refine (rol_impl _ _).mono ?_; rintro e w' ⟨rfl, hw⟩; subst w'))
        go_ret2
        exact ⟨ret_two (by rw [twoV_45 ka kb]) (by rw [twoV_45 ka kb]), by repeat (first | exact hG | apply bAlloc)⟩
      · have en : ((45 : Int) == s) = false := by simp; omega
        clear e
        go_wp2
        go_roundw
        case rel => exact ⟨2, by omega, rfl, sg_next HS.out (by simp at en; simpa [sg] using en), by repeat (first | exact hG | apply bAlloc)⟩
        case measure => simp [intOf]
    · have ik := ixTwo2
      by_cases e : s = 42
      · subst e
        by_cases p : bits a.natAbs + bits b.natAbs ≤ 41
        · go_wp2_with (first | (go_at_call 101; refine (product_impl2 _ _ a1 a2 b1 b2 p _).mono ?_; rintro e w' ⟨rfl, hw⟩; subst w') | (go_at_call 59; refine (rol_impl _ _).mono ?_; rintro e w' ⟨rfl, hw⟩; subst w'))
          go_ret2
          exact ⟨ret_two (by rw [twoV_42 ka kb]) (by rw [twoV_42 ka kb]), by repeat (first | exact hG | apply bAlloc)⟩
        · have hno := lim_no (prod_big (a := a) (b := b) (by omega) (by omega) (by omega))
          go_wp2_with (first | (go_at_call 101; refine (product_impl1 _ _ a1 a2 b1 b2 (by omega) _).mono ?_; rintro e w' ⟨rfl, hw⟩; subst w') | (go_at_call 59; refine (rol_code _ _ (by decide) _).mono ?_; rintro e w' ⟨rfl, hw⟩; subst w'))
          go_ret2
          exact ⟨ret_two (by rw [twoV_42 ka kb]; exact hno.1.symm) (by rw [twoV_42 ka kb]; exact hno.2.symm), by repeat (first | exact hG | apply bAlloc)⟩
      · have en : ((42 : Int) == s) = false := by simp; omega
        clear e
        go_wp2
        go_roundw
        case rel => exact ⟨3, by omega, rfl, sg_next HS.out (by simp at en; simpa [sg] using en), by repeat (first | exact hG | apply bAlloc)⟩
        case measure => simp [intOf]
    · have ik := ixTwo3
      by_cases e : s = 37
      · subst e
        by_cases p : b = 0
        · have PB : Hid (twoV 37 a b = (0, 2)) := twoV_37n ka kb p
          subst p
          go_wp2_with (first | (go_at_call 102; refine (quotient_impl0 _ _).mono ?_; rintro e w' ⟨rfl, hw⟩; subst w') | (go_at_call 59; refine (rol_code _ _ (by decide) _).mono ?_; rintro e w' ⟨rfl, hw⟩; subst w'))
          go_ret2
          exact ⟨ret_two (by rw [PB.out]) (by rw [PB.out]), by repeat (first | exact hG | apply bAlloc)⟩
        · go_wp2_with (first | (go_at_call 102; refine (quotient_impl _ _ p a1 a2 b1 b2 _).mono ?_; rintro e w' ⟨rfl, hw⟩; subst w') | (go_at_call 59; refine (rol_impl _ _).mono ?_; rintro e w' ⟨rfl, hw⟩; subst w'))
          go_ret2
          exact ⟨ret_two (by rw [twoV_37 ka kb p]) (by rw [twoV_37 ka kb p]), by repeat (first | exact hG | apply bAlloc)⟩
      · have en : ((37 : Int) == s) = false := by simp; omega
        clear e
        go_wp2
        go_roundw
        case rel => exact ⟨4, by omega, rfl, sg_next HS.out (by simp at en; simpa [sg] using en), by repeat (first | exact hG | apply bAlloc)⟩
        case measure => simp [intOf]
    · have ik := ixTwo4
      by_cases e : s = 124
      · subst e
        by_cases p : a = 0
        · subst p
          go_wp2_with (first | (go_at_call 103; refine (remainder_impl0 _ _).mono ?_; rintro e w' ⟨rfl, hw⟩; subst w') | (go_at_call 59; refine (rol_impl _ _).mono ?_; rintro e w' ⟨rfl, hw⟩; subst w'))
          go_ret2
          exact ⟨ret_two (by rw [twoV_124 ka kb, if_pos rfl]) (by rw [twoV_124 ka kb, if_pos rfl]), by repeat (first | exact hG | apply bAlloc)⟩
        · go_wp2_with (first | (go_at_call 103; refine (remainder_impl _ _ p a1 a2 b1 b2 _).mono ?_; rintro e w' ⟨rfl, hw⟩; subst w') | (go_at_call 59; refine (rol_impl _ _).mono ?_; rintro e w' ⟨rfl, hw⟩; subst w'))
          go_ret2
          exact ⟨ret_two (by rw [twoV_124 ka kb, if_neg p]) (by rw [twoV_124 ka kb, if_neg p]), by repeat (first | exact hG | apply bAlloc)⟩
      · have en : ((124 : Int) == s) = false := by simp; omega
        clear e
        go_wp2
        go_roundw
        case rel => exact ⟨5, by omega, rfl, sg_next HS.out (by simp at en; simpa [sg] using en), by repeat (first | exact hG | apply bAlloc)⟩
        case measure => simp [intOf]
    · have ik := ixTwo5
      by_cases e : s = 38
      · subst e
        go_wp2_with (first | (go_at_call 104; refine (lesser_impl _ _ _).mono ?_; rintro e w' ⟨rfl, hw⟩; subst w') | (go_at_call 59; refine (rol_impl _ _).mono ?_; rintro e w' ⟨rfl, hw⟩; subst w'))
        go_ret2
        exact ⟨ret_two (by rw [twoV_38 ka kb]) (by rw [twoV_38 ka kb]), by repeat (first | exact hG | apply bAlloc)⟩
      · have en : ((38 : Int) == s) = false := by simp; omega
        clear e
        go_wp2
        go_roundw
        case rel => exact ⟨6, by omega, rfl, sg_next HS.out (by simp at en; simpa [sg] using en), by repeat (first | exact hG | apply bAlloc)⟩
        case measure => simp [intOf]
    · have ik := ixTwo6
      by_cases e : s = 94
      · subst e
        go_wp2_with (first | (go_at_call 105; refine (greater_impl _ _ _).mono ?_; rintro e w' ⟨rfl, hw⟩; subst w') | (go_at_call 59; refine (rol_impl _ _).mono ?_; rintro e w' ⟨rfl, hw⟩; subst w'))
        go_ret2
        exact ⟨ret_two (by rw [twoV_94 ka kb]) (by rw [twoV_94 ka kb]), by repeat (first | exact hG | apply bAlloc)⟩
      · have en : ((94 : Int) == s) = false := by simp; omega
        clear e
        go_wp2
        go_roundw
        case rel => exact ⟨7, by omega, rfl, sg_next HS.out (by simp at en; simpa [sg] using en), by repeat (first | exact hG | apply bAlloc)⟩
        case measure => simp [intOf]
    · have ik := ixTwo7
      by_cases e : s = 61
      · subst e
        go_wp2_with (first | (go_at_call 106; refine (isEqual_impl _ _ _).mono ?_; rintro e w' ⟨rfl, hw⟩; subst w') | (go_at_call 59; refine (rol_impl _ _).mono ?_; rintro e w' ⟨rfl, hw⟩; subst w'))
        go_ret2
        exact ⟨ret_two (by rw [twoV_61 ka kb]) (by rw [twoV_61 ka kb]), by repeat (first | exact hG | apply bAlloc)⟩
      · have en : ((61 : Int) == s) = false := by simp; omega
        clear e
        go_wp2
        go_roundw
        case rel => exact ⟨8, by omega, rfl, sg_next HS.out (by simp at en; simpa [sg] using en), by repeat (first | exact hG | apply bAlloc)⟩
        case measure => simp [intOf]
    · have ik := ixTwo8
      by_cases e : s = 60
      · subst e
        go_wp2_with (first | (go_at_call 107; refine (isBelow_impl _ _ _).mono ?_; rintro e w' ⟨rfl, hw⟩; subst w') | (go_at_call 59; refine (rol_impl _ _).mono ?_; rintro e w' ⟨rfl, hw⟩; subst w'))
        go_ret2
        exact ⟨ret_two (by rw [twoV_60 ka kb]) (by rw [twoV_60 ka kb]), by repeat (first | exact hG | apply bAlloc)⟩
      · have en : ((60 : Int) == s) = false := by simp; omega
        clear e
        go_wp2
        go_roundw
        case rel => exact ⟨9, by omega, rfl, sg_next HS.out (by simp at en; simpa [sg] using en), by repeat (first | exact hG | apply bAlloc)⟩
        case measure => simp [intOf]
    · have ik := ixTwo9
      by_cases e : s = 62
      · subst e
        go_wp2_with (first | (go_at_call 108; refine (isAbove_impl _ _ _).mono ?_; rintro e w' ⟨rfl, hw⟩; subst w') | (go_at_call 59; refine (rol_impl _ _).mono ?_; rintro e w' ⟨rfl, hw⟩; subst w'))
        go_ret2
        exact ⟨ret_two (by rw [twoV_62 ka kb]) (by rw [twoV_62 ka kb]), by repeat (first | exact hG | apply bAlloc)⟩
      · have en : ((62 : Int) == s) = false := by simp; omega
        clear e
        go_wp2
        go_roundw
        case rel => exact ⟨10, by omega, rfl, sg_next HS.out (by simp at en; simpa [sg] using en), by repeat (first | exact hG | apply bAlloc)⟩
        case measure => simp [intOf]
    · go_wp2
      go_ret2
      exact ⟨ret_two (by rw [twoV_none (sg_none HS.out)]) (by rw [twoV_none (sg_none HS.out)]), hG⟩
set_option maxHeartbeats 1000000 in
theorem two_implBad (s a b : Int) (h : ok a = false ∨ ok b = false) (w : World) :
    Calls Try.prog 19 #[.int .i64 s, .int .i64 a, .int .i64 b] w fun e w' => e = .returned (.tuple #[.int .i64 0, .int .i64 1]) ∧ Below w.heap.size w w' := by
  by_cases ha : ok a = true
  · have hb : ok b = false := by simpa [ha] using h
    clear h
    go_enter Try.func19, Try.ntmps19
    go_wp2_with (go_at_call 57; refine (numOk_impl _ _).mono ?_; rintro e w' ⟨rfl, hw⟩; subst w')
    go_ret2
    exact ⟨rfl, Below.refl _ _⟩
  · have ha : ok a = false := by simpa using ha
    clear h
    go_enter Try.func19, Try.ntmps19
    go_wp2_with (go_at_call 57; refine (numOk_impl _ _).mono ?_; rintro e w' ⟨rfl, hw⟩; subst w')
    go_ret2
    exact ⟨rfl, Below.refl _ _⟩
/-- The program's Two, whatever it is given. -/
theorem two_impl (s a b : Int) (w : World) :
    Calls Try.prog 19 #[.int .i64 s, .int .i64 a, .int .i64 b] w fun e w' => e = .returned (.tuple #[.int .i64 (twoV s a b).1, .int .i64 (twoV s a b).2]) ∧ Below w.heap.size w w' := by
  by_cases ha : ok a = true
  · by_cases hb : ok b = true
    · obtain ⟨a1, a2⟩ := ok_bd ha
      obtain ⟨b1, b2⟩ := ok_bd hb
      exact two_right s a b a1 a2 b1 b2 w
    · have hb : ok b = false := by simpa using hb
      rw [twoV_bad (.inr hb)]; exact two_implBad s a b (.inr hb) w
  · have ha : ok a = false := by simpa using ha
    rw [twoV_bad (.inl ha)]; exact two_implBad s a b (.inl ha) w
end Go.Proofs.Ytcpgdhffemecbaa
namespace Go.Proofs.Ytcpgdhffemecbaa
open Go.RowKit
set_option linter.unusedVariables false
set_option linter.unusedSimpArgs false
set_option maxRecDepth 20000 in
set_option maxHeartbeats 1000000 in
/-- numberFor. -/
theorem numberFor_impl {s d : List Int} {w : World} {v : Value} (i : Nat) (h : ArrI w v s d) (h0 : s = [] → 0 < d.length) (h1 : s ≠ [] → i < d.length) (hd : d.length ≤ 1048576) :
    Calls Try.prog 121 #[v, .int .i64 (i : Int)] w fun r w' => r = .returned (.int .i64 (numOf s d i)) ∧ Below w.heap.size w w' := by
  obtain ⟨a, c, b, f, rfl, i1, i2, _, _⟩ := h
  by_cases e : s = []
  · subst e
    have E : Hid (numOf [] d i = d.getD 0 0) := by show _ = _; unfold numOf; rw [if_pos rfl]
    obtain ⟨b1, o1, rfl, hb1, c1⟩ := i2.at (h0 rfl)
    rw [Nat.add_zero] at c1
    have c2 : ∀ O : Obj, (w.alloc O).cell? ⟨b1, o1, none⟩ = some (.int .i64 (d.getD 0 0)) := fun O => ((bAlloc (Below.refl _ _) O).cell (p := ⟨b1, o1, none⟩) hb1).trans c1
    have hl : (0 : Int) < (d.length : Int) := by have := h0 rfl; omega
    generalize d.getD 0 0 = x at *
    clear i1 i2 h0 h1 c1
    go_enter Try.func121, Try.ntmps121
    go_wp2
    go_ret
    exact ⟨by rw [E.out]; rfl, bAlloc (Below.refl _ _) _⟩
  · have E : Hid (numOf s d i = d.getD i 0) := by show _ = _; unfold numOf; rw [if_neg e]
    obtain ⟨b1, o1, rfl, hb1, c1⟩ := i2.at (h1 e)
    have c2 : ∀ O : Obj, (w.alloc O).cell? ⟨b1, o1 + i, none⟩ = some (.int .i64 (d.getD i 0)) := fun O => ((bAlloc (Below.refl _ _) O).cell (p := ⟨b1, o1 + i, none⟩) hb1).trans c1
    have hl : (i : Int) < (d.length : Int) := by have := h1 e; omega
    have n1 : ((s.length : Int) == 0) = false := by
      have := List.length_pos_iff.2 e
      simp; omega
    generalize d.getD i 0 = x at *
    clear i1 i2 h0 h1 c1 e
    go_enter Try.func121, Try.ntmps121
    go_wp2
    go_ret
    exact ⟨by rw [E.out]; rfl, bAlloc (Below.refl _ _) _⟩
theorem known1 (g : Int) : ((oneV g 0).2 != 1) = sign1 g := by
  by_cases h : sign1 g = true
  · rcases sign1_of h with rfl | rfl | rfl | rfl | rfl <;> decide
  · have h : sign1 g = false := by simpa using h
    rw [oneV_none h, h]; rfl
theorem known2 (g : Int) : ((twoV g 0 0).2 != 1) = sign2 g := by
  by_cases h : sign2 g = true
  · rcases sign2_of h with rfl | rfl | rfl | rfl | rfl | rfl | rfl | rfl | rfl | rfl <;> decide
  · have h : sign2 g = false := by simpa using h
    rw [twoV_none h, h]; rfl
set_option maxHeartbeats 1000000 in
/-- knownToTwo. -/
theorem knownTwo_impl (g : Int) (w : World) :
    Calls Try.prog 42 #[.int .i64 g] w fun r w' => r = .returned (.bool (sign2 g)) ∧ Below w.heap.size w w' := by
  have K : Hid (((twoV g 0 0).2 != 1) = sign2 g) := known2 g
  have HV : Hid (∀ W, Calls Try.prog 19 #[.int .i64 g, .int .i64 0, .int .i64 0] W fun e w' => e = .returned (.tuple #[.int .i64 (twoV g 0 0).1, .int .i64 (twoV g 0 0).2]) ∧ Below W.heap.size W w') := fun W => two_impl g 0 0 W
  generalize (twoV g 0 0).1 = x at *
  generalize (twoV g 0 0).2 = y at *
  go_enter Try.func42, Try.ntmps42
  go_wp2_with fail
  refine (HV.out _).mono ?_
  rintro r w1 ⟨rfl, hb⟩
  have HB : Hid (Below w.heap.size w w1) := hb
  clear hb
  go_wp2
  go_ret
  exact ⟨by rw [← K.out]; rfl, HB.out⟩
set_option maxRecDepth 20000 in
set_option maxHeartbeats 1000000 in
/-- What EachTwo does at a place. -/
theorem does2_impl {g x y : Int} {w : World} {a : Option Addr} {q c : Nat} (h : Ints w a [x, y]) (hq : w.cell? ⟨q, 0, none⟩ = some (.int .i64 g)) :
    Calls Try.prog 44 #[.slice a 2 c, .pointer (some ⟨q, 0, none⟩)] w fun r w' => r = .returned (.tuple #[.int .i64 (twoV g x y).1, .int .i64 (twoV g x y).2]) ∧ Below w.heap.size w w' := by
  obtain ⟨b1, o1, rfl, hb1, c1⟩ := h.at (k := 0) (by simp)
  obtain ⟨b2, o2, e2, _, c2⟩ := h.at (k := 1) (by simp)
  cases e2
  have x0 : w.cell? ⟨b1, o1, none⟩ = some (.int .i64 x) := by simpa using c1
  have x1 : w.cell? ⟨b1, o1 + 1, none⟩ = some (.int .i64 y) := by simpa using c2
  have HV : Hid (∀ W, Calls Try.prog 19 #[.int .i64 g, .int .i64 x, .int .i64 y] W fun e w' => e = .returned (.tuple #[.int .i64 (twoV g x y).1, .int .i64 (twoV g x y).2]) ∧ Below W.heap.size W w') := fun W => two_impl g x y W
  clear c1 c2 h
  generalize (twoV g x y).1 = u at *
  generalize (twoV g x y).2 = z at *
  go_enter Try.func44, Try.ntmps44
  go_wp2
  first
    | go_region_with (go_at_call 19; refine (HV.out _).mono ?_; rintro r w1 ⟨rfl, hb⟩; have HB1 : Hid (Below w.heap.size w w1) := bTrans ((Below.refl w.heap.size w).drew) hb; clear hb)
    | fail "no"
  all_goals
    go_wp2
    go_ret2
    exact ⟨rfl, HB1.out⟩
end Go.Proofs.Ytcpgdhffemecbaa
namespace Go.Proofs.Ytcpgdhffemecbaa
open Go.RowKit
set_option linter.unusedVariables false
set_option linter.unusedSimpArgs false
theorem piece_setN {B C g c k n : Nat} {w : World} {l : List Int} (h : Piece B C w (.slice (some ⟨g, 0, none⟩) n c) l) (hl : l.length = n) (hk : k < n) (x : Int) : Piece B C (w.setCell ⟨g, k, none⟩ (.int .i64 x)) (.slice (some ⟨g, 0, none⟩) n c) (l.set k x) := by
  subst hl
  have := h.set hk x
  simpa using this
/-- What stands while eachPlace goes on: what was there, the list that is made, the numbers of a place. -/
structure PlaceAt (w wr : World) (n m : Nat) (l x : List Int) : Prop where
  below : Below w.heap.size w wr
  list : Piece w.heap.size (w.heap.size + 1) wr (.slice (some ⟨w.heap.size, 0, none⟩) n n) l
  nums : Piece (w.heap.size + 1) (w.heap.size + 2) wr (.slice (some ⟨w.heap.size + 1, 0, none⟩) m m) x
  size : w.heap.size + 2 ≤ wr.heap.size
  llen : l.length = n
  xlen : x.length = m
theorem PlaceAt.keep {w wr w' : World} {n m : Nat} {l x : List Int} (h : PlaceAt w wr n m l x) (hb : Below wr.heap.size wr w') : PlaceAt w w' n m l x :=
  ⟨h.below.trans (hb.mono h.below.size), h.list.keep hb, h.nums.keep hb, Nat.le_trans h.size hb.size, h.llen, h.xlen⟩
theorem PlaceAt.setX {w wr : World} {n m j : Nat} {l x : List Int} (h : PlaceAt w wr n m l x) (hj : j < m) (z : Int) : PlaceAt w (wr.setCell ⟨w.heap.size + 1, j, none⟩ (.int .i64 z)) n m l (x.set j z) :=
  ⟨below_setCell h.below (by omega) _ _, h.list.win (win_setCell _ _ _ _) (.inl (Nat.le_refl _)), piece_setN h.nums h.xlen hj z, by rw [size_setCell]; exact h.size, h.llen, by rw [List.length_set]; exact h.xlen⟩
theorem PlaceAt.setL {w wr : World} {n m j : Nat} {l x : List Int} (h : PlaceAt w wr n m l x) (hj : j < n) (z : Int) : PlaceAt w (wr.setCell ⟨w.heap.size, j, none⟩ (.int .i64 z)) n m (l.set j z) x :=
  ⟨below_setCell h.below (Nat.le_refl _) _ _, piece_setN h.list h.llen hj z, h.nums.win (win_setCell _ _ _ _) (.inr (Nat.le_refl _)), by rw [size_setCell]; exact h.size, by rw [List.length_set]; exact h.llen, h.xlen⟩
theorem PlaceAt.start (w : World) (n m : Nat) : PlaceAt w ((w.alloc (.cells (vals (List.replicate n 0)) 3)).alloc (.cells (vals (List.replicate m 0)) 3)) n m (List.replicate n 0) (List.replicate m 0) := by
  have p1 : Piece w.heap.size (w.heap.size + 1) (w.alloc (.cells (vals (List.replicate n 0)) 3)) (.slice (some ⟨w.heap.size, 0, none⟩) n n) (List.replicate n 0) := by
    have := OwnInts.piece (ownInts_new w (List.replicate n 0)) (B := w.heap.size) (C := w.heap.size + 1) (Nat.le_refl _) (Nat.lt_succ_self _) n
    simpa using this
  have p2 : Piece (w.heap.size + 1) (w.heap.size + 2) ((w.alloc (.cells (vals (List.replicate n 0)) 3)).alloc (.cells (vals (List.replicate m 0)) 3)) (.slice (some ⟨w.heap.size + 1, 0, none⟩) m m) (List.replicate m 0) := by
    have := OwnInts.piece (ownInts_new (w.alloc (.cells (vals (List.replicate n 0)) 3)) (List.replicate m 0)) (B := w.heap.size + 1) (C := w.heap.size + 2) (by simp) (by simp) m
    simpa using this
  exact ⟨bAlloc (bAlloc (Below.refl _ _) _) _, p1.keep (bAlloc (Below.refl _ _) _), p2, by simp, by simp, by simp⟩
/-- The numbers of a place. -/
def numsAt (F : List (List Int)) (m k : Nat) : List Int := (List.range m).map fun i => numOf (F.getD (2 * i) []) (F.getD (2 * i + 1) []) k
theorem numsAt_set {F : List (List Int)} {m k j : Nat} {x : List Int} (hx : ∀ q, q < j → x.getD q 0 = numOf (F.getD (2 * q) []) (F.getD (2 * q + 1) []) k) (hj : j < x.length) : ∀ q, q < j + 1 → (x.set j (numOf (F.getD (2 * j) []) (F.getD (2 * j + 1) []) k)).getD q 0 = numOf (F.getD (2 * q) []) (F.getD (2 * q + 1) []) k := by
  intro q hq
  by_cases e : q = j
  · subst e; simp [hj]
  · have := hx q (by omega)
    simp only [List.getD_eq_getElem?_getD] at this ⊢
    rw [List.getElem?_set_ne (by omega)]
    exact this
theorem numsAt_eq {F : List (List Int)} {m k : Nat} {x : List Int} (hl : x.length = m) (hx : ∀ q, q < m → x.getD q 0 = numOf (F.getD (2 * q) []) (F.getD (2 * q + 1) []) k) : x = numsAt F m k := by
  apply List.ext_getElem
  · simp [numsAt, hl]
  · intro q h1 h2
    have := hx q (by omega)
    simp only [numsAt, List.getElem_map, List.getElem_range]
    rw [← this]
    simp [h1]
/-- What eachPlace answers. -/
def placesC (V : Nat → Int × Int) (n : Nat) : Int := firstC (fun i => (V i).2) n
def placesD (V : Nat → Int × Int) (n : Nat) : List Int := if placesC V n = 0 then (List.range n).map (fun i => (V i).1) else []
set_option maxRecDepth 20000 in
set_option maxHeartbeats 4000000 in
/-- eachPlace. -/
theorem eachPlace_impl {F : List (List Int)} {V : Nat → Int × Int} {w : World} {f n m ca : Nat} {aa : Option Addr} {p : Value}
    (hE : ∀ (args : Array Value) (w : World), (callFunc f args).run Try.prog w = .ok (.enter f args) w) (hA : ArrsI w (.slice aa m ca) F) (hm : m ≤ 2) (hn : n ≤ 300) (hL : ∀ j, (F.getD j []).length ≤ 1048576)
    (hN : ∀ i, i < m → (F.getD (2 * i) [] = [] → 0 < (F.getD (2 * i + 1) []).length) ∧ (F.getD (2 * i) [] ≠ [] → n ≤ (F.getD (2 * i + 1) []).length))
    (hV : ∀ (W : World) (A k : Nat), k < n → Below w.heap.size w W → Ints W (some ⟨A, 0, none⟩) (numsAt F m k) → Calls Try.prog f #[.slice (some ⟨A, 0, none⟩) m m, p] W fun r W' => r = .returned (.tuple #[.int .i64 (V k).1, .int .i64 (V k).2]) ∧ Below W.heap.size W W') :
    Calls Try.prog 88 #[.int .i64 (n : Int), .func (.func f) #[] #[p], .slice aa m ca] w fun r w' => ∃ a' c', r = .returned (.tuple #[.slice a' (placesD V n).length c', .int .i64 (placesC V n)]) ∧ Piece w.heap.size w'.heap.size w' (.slice a' (placesD V n).length c') (placesD V n) ∧ Below w.heap.size w w' := by
  have HA : Hid (ArrsI w (.slice aa m ca) F) := hA
  have HL : Hid (∀ j, (F.getD j []).length ≤ 1048576) := hL
  have HN : Hid (∀ i, i < m → (F.getD (2 * i) [] = [] → 0 < (F.getD (2 * i + 1) []).length) ∧ (F.getD (2 * i) [] ≠ [] → n ≤ (F.getD (2 * i + 1) []).length)) := hN
  have HV : Hid (∀ (W : World) (A k : Nat), k < n → Below w.heap.size w W → Ints W (some ⟨A, 0, none⟩) (numsAt F m k) → Calls Try.prog f #[.slice (some ⟨A, 0, none⟩) m m, p] W fun r W' => r = .returned (.tuple #[.int .i64 (V k).1, .int .i64 (V k).2]) ∧ Below W.heap.size W W') := hV
  have hmk1 : ∀ w, (Instr.makeSlice 24 (.int .i64 (n : Int)) (.int .i64 (n : Int))).run Try.prog w = .ok (.slice (some ⟨w.heap.size, 0, none⟩) n n) (w.alloc (.cells (vals (List.replicate n 0)) 3)) := fun w => make_ints n (by omega) w
  have hmk2 : ∀ w, (Instr.makeSlice 24 (.int .i64 (m : Int)) (.int .i64 (m : Int))).run Try.prog w = .ok (.slice (some ⟨w.heap.size, 0, none⟩) m m) (w.alloc (.cells (vals (List.replicate m 0)) 3)) := fun w => make_ints m (by omega) w
  obtain ⟨C, hC⟩ : ∃ C, C = placesC V n := ⟨_, rfl⟩
  obtain ⟨D, hD⟩ : ∃ D, D = placesD V n := ⟨_, rfl⟩
  have HC : Hid (C = firstC (fun i => (V i).2) n) := hC
  have HBAD : Hid (C ≠ 0 → D = []) := fun h => by rw [hD]; unfold placesD; rw [if_neg (by rw [← hC]; exact h)]
  have HGOOD : Hid (C = 0 → D = (List.range n).map (fun i => (V i).1)) := fun h => by rw [hD]; unfold placesD; rw [if_pos (by rw [← hC]; exact h)]
  rw [← hC, ← hD]
  clear hA hL hN hV hC hD
  go_enter Try.func88, Try.ntmps88
  go_wp2
  generalize hW : (w.alloc (.cells (vals (List.replicate n 0)) 3)).alloc (.cells (vals (List.replicate m 0)) 3) = W0
  have P0 : Hid (PlaceAt w W0 n m (List.replicate n 0) (List.replicate m 0)) := by rw [← hW]; exact PlaceAt.start w n m
  clear hW hmk1 hmk2
  go_loopw [22] (fun i w' => ∃ (k : Nat) (l x : List Int), k ≤ n ∧ i = .int .i64 (k : Int) ∧ firstC (fun i => (V i).2) k = 0 ∧ l = setTo (fun i => (V i).1) (List.replicate n 0) k ∧ PlaceAt w w' n m l x) (fun i _ => n - (intOf i).toNat)
  case atStart => exact ⟨0, _, _, by omega, rfl, rfl, by rw [setTo_zero], P0.out⟩
  case round =>
    obtain ⟨k, l, x, hk, rfl, hf, hl, hP⟩ := hrel
    have HF : Hid (firstC (fun i => (V i).2) k = 0) := hf
    have HLL : Hid (l = setTo (fun i => (V i).1) (List.replicate n 0) k) := hl
    have HP : Hid (PlaceAt w wr n m l x) := hP
    clear hf hl hP P0
    by_cases hlt : (k : Int) < (n : Int)
    · go_wp2
      go_loopw [27] (fun i w' => ∃ (j : Nat) (x : List Int), j ≤ m ∧ i = .int .i64 (j : Int) ∧ (∀ q, q < j → x.getD q 0 = numOf (F.getD (2 * q) []) (F.getD (2 * q + 1) []) k) ∧ PlaceAt w w' n m l x) (fun i _ => m - (intOf i).toNat)
      case atStart => exact ⟨0, x, by omega, rfl, by intro q hq; omega, HP.out⟩
      case round =>
        obtain ⟨j, x1, hj, rfl, hx, hP⟩ := hrel
        have HX : Hid (∀ q, q < j → x1.getD q 0 = numOf (F.getD (2 * q) []) (F.getD (2 * q + 1) []) k) := hx
        have HP1 : Hid (PlaceAt w wr n m l x1) := hP
        clear hx hP HP
        by_cases hjm : (j : Int) < (m : Int)
        · obtain ⟨o, off, sx, sy, rfl, ho, p0, p1, i0, i1⟩ := (HA.out.keep HP1.out.below).at (k := j) (by omega)
          obtain ⟨ax, cx, rfl, gix, ix⟩ := i0
          obtain ⟨ay, cy, rfl, giy, iy⟩ := i1
          have A1 : Hid (ArrI wr (.agg #[.slice ax (F.getD (2 * j) []).length cx, .slice ay (F.getD (2 * j + 1) []).length cy]) (F.getD (2 * j) []) (F.getD (2 * j + 1) [])) := ⟨_, _, _, _, rfl, ix, iy, gix, giy⟩
          obtain ⟨q1, q2⟩ := HN.out j (by omega)
          have HF1 : Hid (∀ W, Below wr.heap.size wr W → Calls Try.prog 121 #[.agg #[.slice ax (F.getD (2 * j) []).length cx, .slice ay (F.getD (2 * j + 1) []).length cy], .int .i64 (k : Int)] W fun r w' => r = .returned (.int .i64 (numOf (F.getD (2 * j) []) (F.getD (2 * j + 1) []) k)) ∧ Below W.heap.size W w') := fun W h => numberFor_impl k (A1.out.keep h) q1 (fun h => Nat.lt_of_lt_of_le (by omega) (q2 h)) (HL.out _)
          have HX1 : Hid (∀ q, q < j + 1 → (x1.set j (numOf (F.getD (2 * j) []) (F.getD (2 * j + 1) []) k)).getD q 0 = numOf (F.getD (2 * q) []) (F.getD (2 * q + 1) []) k) := numsAt_set (m := m) HX.out (by rw [HP1.out.xlen]; omega)
          clear ix iy gix giy q1 q2
          generalize (F.getD (2 * j) []).length = ls at *
          generalize (F.getD (2 * j + 1) []).length = ld at *
          generalize numOf (F.getD (2 * j) []) (F.getD (2 * j + 1) []) k = z at *
          go_wp2_with fail
          refine (HF1.out _ (bAlloc (Below.refl _ _) _)).mono ?_
          rintro r w2 ⟨rfl, hb⟩
          have P2 : Hid (PlaceAt w w2 n m l x1) := HP1.out.keep (bTrans (bAlloc (Below.refl _ _) _) hb)
          obtain ⟨t1, t2, _, _, _⟩ := P2.out.nums.cellAt (k := j) (by rw [P2.out.xlen]; omega)
          rw [Nat.zero_add] at t1 t2
          clear hb
          generalize x1.getD j 0 = x2 at t1
          go_wp2
          go_roundw
          case rel => exact ⟨j + 1, _, by omega, by go_num, HX1.out, P2.out.setX (by omega) z⟩
          case measure => simp [intOf]; omega
        · obtain rfl : j = m := by omega
          have HX1 : Hid (x1 = numsAt F j k) := numsAt_eq HP1.out.xlen HX.out
          have HIN : Hid (Ints wr (some ⟨w.heap.size + 1, 0, none⟩) (numsAt F j k)) := by
            obtain ⟨a', c', e', i'⟩ := HP1.out.nums.ints
            cases e'
            rw [← HX1.out]; exact i'
          have HV1 : Hid (Calls Try.prog f #[.slice (some ⟨w.heap.size + 1, 0, none⟩) j j, p] wr fun r W' => r = .returned (.tuple #[.int .i64 (V k).1, .int .i64 (V k).2]) ∧ Below wr.heap.size wr W') := HV.out wr _ k (by omega) HP1.out.below HIN.out
          have E1 : Hid ((V k).2 = 0 → firstC (fun i => (V i).2) (k + 1) = 0) := fun h => firstC_go HF.out h
          have E2 : Hid ((V k).2 ≠ 0 → C = (V k).2) := fun h => by rw [HC.out]; exact firstC_stop HF.out h (by omega)
          have E3 : Hid (l.set k (V k).1 = setTo (fun i => (V i).1) (List.replicate n 0) (k + 1)) := by show _ = _; rw [HLL.out]; exact setTo_set (fun i => (V i).1) _ (by simp; omega)
          clear HX HX1 HIN
          generalize (V k).1 = y at *
          generalize (V k).2 = z at *
          by_cases h0 : z = 0
          · subst h0
            have E1' : Hid (firstC (fun i => (V i).2) (k + 1) = 0) := E1.out rfl
            go_wp2_with (go_at_fn f; refine HV1.out.mono ?_; rintro r w2 ⟨rfl, hb⟩; have P2 : Hid (PlaceAt w w2 n j l x1) := HP1.out.keep hb; obtain ⟨t1, t2, _, _, _⟩ := P2.out.list.cellAt (k := k) (by rw [P2.out.llen]; omega); rw [Nat.zero_add] at t1 t2; clear hb; generalize l.getD k 0 = x2 at t1)
            go_roundw
            case rel => exact ⟨k + 1, _, _, by omega, by go_num, E1'.out, E3.out, P2.out.setL (by omega) y⟩
            case measure => simp [intOf]; omega
          · have hne : (z != 0) = true := by simpa using h0
            have EC : Hid (C = z) := E2.out h0
            have ED : Hid (D = []) := HBAD.out (by rw [EC.out]; exact h0)
            clear h0
            go_wp2_with (go_at_fn f; refine HV1.out.mono ?_; rintro r w2 ⟨rfl, hb⟩; have B2 : Hid (Below w.heap.size w w2) := (HP1.out.keep hb).below; clear hb)
            go_ret2
            refine ⟨none, 0, by rw [EC.out, ED.out]; rfl, ?_, B2.out⟩
            rw [ED.out]; exact Piece.nil _ _ _
    · obtain rfl : k = n := by omega
      have EC : Hid (C = 0) := by show _ = _; rw [HC.out, HF.out]
      have ED : Hid (D = l) := by show _ = _; rw [HGOOD.out EC.out, HLL.out, setTo_all _ _ (by simp)]
      have EL : Hid (D.length = k) := by show _ = _; rw [ED.out]; exact HP.out.llen
      go_wp2
      go_ret2
      refine ⟨some ⟨w.heap.size, 0, none⟩, k, by rw [EC.out, EL.out]; rfl, ?_, HP.out.below⟩
      rw [EL.out, ED.out]
      exact HP.out.list.mono (Nat.le_refl _) (by have := HP.out.size; omega)
end Go.Proofs.Ytcpgdhffemecbaa
namespace Go.Proofs.Ytcpgdhffemecbaa
open Go.RowKit
set_option linter.unusedVariables false
set_option linter.unusedSimpArgs false
set_option maxRecDepth 20000 in
set_option maxHeartbeats 4000000 in
/-- filled. -/
theorem filled_impl {F : List (List Int)} {V : Nat → Int × Int} {w : World} {f n m ca B E sc : Nat} {aa sa : Option Addr} {p : Value} {S : List Int}
    (hE : ∀ (args : Array Value) (w : World), (callFunc f args).run Try.prog w = .ok (.enter f args) w) (hA : ArrsI w (.slice aa m ca) F) (hm : m ≤ 2) (hn : n ≤ 300) (hL : ∀ j, (F.getD j []).length ≤ 1048576)
    (hN : ∀ i, i < m → (F.getD (2 * i) [] = [] → 0 < (F.getD (2 * i + 1) []).length) ∧ (F.getD (2 * i) [] ≠ [] → n ≤ (F.getD (2 * i + 1) []).length))
    (hV : ∀ (W : World) (A k : Nat), k < n → Below w.heap.size w W → Ints W (some ⟨A, 0, none⟩) (numsAt F m k) → Calls Try.prog f #[.slice (some ⟨A, 0, none⟩) m m, p] W fun r W' => r = .returned (.tuple #[.int .i64 (V k).1, .int .i64 (V k).2]) ∧ Below W.heap.size W W')
    (hS : Piece B E w (.slice sa S.length sc) S) (hBE : B ≤ E) (hEw : E ≤ w.heap.size) (hz : sizeV S = (n : Int)) :
    Calls Try.prog 45 #[.slice sa S.length sc, .func (.func f) #[] #[p], .slice aa m ca] w fun r w' => ∃ v', r = .returned (.tuple #[v', .int .i64 (placesC V n)]) ∧ Arr B w'.heap.size w' v' (if placesC V n = 0 then S else []) (placesD V n) ∧ Below w.heap.size w w' := by
  have HI : Hid (Ints w sa S) := by
    obtain ⟨a', c', e', i'⟩ := hS.ints
    cases e'
    exact i'
  have HS : Hid (Piece B E w (.slice sa S.length sc) S) := hS
  have HSZ : Hid (∀ W, Ints W sa S → Calls Try.prog 60 #[.slice sa S.length sc] W fun e w' => e = .returned (.int .i64 (n : Int)) ∧ Below W.heap.size W w') := fun W h => by
    have := size_impl sc h
    rw [hz] at this
    exact this
  have HEP : Hid (∀ W, Below w.heap.size w W → Calls Try.prog 88 #[.int .i64 (n : Int), .func (.func f) #[] #[p], .slice aa m ca] W fun r w' => ∃ a' c', r = .returned (.tuple #[.slice a' (placesD V n).length c', .int .i64 (placesC V n)]) ∧ Piece W.heap.size w'.heap.size w' (.slice a' (placesD V n).length c') (placesD V n) ∧ Below W.heap.size W w') :=
    fun W h => eachPlace_impl hE (hA.keep h) hm hn hL hN (fun W' A k hk hb hi => hV W' A k hk (bTrans h hb) hi)
  have HBE : Hid (B ≤ E ∧ E ≤ w.heap.size) := ⟨hBE, hEw⟩
  have HD0 : Hid (placesC V n ≠ 0 → placesD V n = []) := fun h => by unfold placesD; rw [if_neg h]
  obtain ⟨S', hS'⟩ : ∃ S', S' = (if placesC V n = 0 then S else []) := ⟨_, rfl⟩
  have HS1 : Hid (placesC V n = 0 → S' = S) := fun h => by rw [hS', if_pos h]
  have HS2 : Hid (placesC V n ≠ 0 → S' = []) := fun h => by rw [hS', if_neg h]
  rw [← hS']
  clear hS'
  generalize placesC V n = C at *
  generalize placesD V n = D at *
  clear hE hA hm hn hL hN hV hS hBE hEw hz
  go_enter Try.func45, Try.ntmps45
  go_wp2_with fail
  refine (HSZ.out _ (HI.out.keep (bAlloc (Below.refl _ _) _))).mono ?_
  rintro r w1 ⟨rfl, hb⟩
  have HB1 : Hid (Below w.heap.size w w1) := bTrans (bAlloc (Below.refl _ _) _) hb
  have Y1 : Hid (Box w1 w.heap.size (.slice none 0 0) (.slice none 0 0) 26) := (box_new w _ _ _).keep hb
  clear hb
  go_wp2_with fail
  refine (HEP.out _ HB1.out).mono ?_
  rintro r w2 ⟨a2, c2, rfl, hp, hb⟩
  have HP2 : Hid (Piece w1.heap.size w2.heap.size w2 (.slice a2 D.length c2) D) := hp
  have HB2 : Hid (Below w.heap.size w w2) := bTrans HB1.out hb
  have Y2 : Hid (Box w2 w.heap.size (.slice none 0 0) (.slice none 0 0) 26) := Y1.out.keep hb
  have LT : Hid (w.heap.size < w1.heap.size) := Y1.out.lt
  have LT2 : Hid (w1.heap.size ≤ w2.heap.size) := hb.size
  clear hp hb Y1
  have y0 := Y2.out.c0
  have y1 := Y2.out.c1
  have f0 : w2.frozen? ⟨w.heap.size, 0, none⟩ = false := free_at Y2.out 0
  have f1 : w2.frozen? ⟨w.heap.size, 1, none⟩ = false := free_at Y2.out 1
  by_cases h0 : C = 0
  · have EC : Hid (S' = S) := HS1.out h0
    subst h0
    clear HS1 HS2 HD0
    have HR : Hid (((w2.setCell ⟨w.heap.size, 0, none⟩ (.slice sa S.length sc)).setCell ⟨w.heap.size, 1, none⟩ (.slice a2 D.length c2)).heap[w.heap.size]? = some (.cells #[.slice sa S.length sc, .slice a2 D.length c2] 26 (0, 0))) := arr_stored Y2.out
    go_wp2
    refine bodyPost_ret (results_arr_tmp Try.results45 _ _ w.heap.size _ _ rfl HR.out) rfl ?_
    refine ⟨_, rfl, ?_, below_setCell (below_setCell HB2.out (Nat.le_refl _) _ _) (Nat.le_refl _) _ _⟩
    rw [EC.out]
    have L1 := LT.out
    have L2 := LT2.out
    have L3 := HBE.out
    have p1 : Piece B E w2 (.slice sa S.length sc) S := HS.out.belowC HB2.out L3.2
    have p1' := (p1.win (win_setCell w2 w.heap.size 0 (.slice sa S.length sc)) (.inl L3.2)).win (win_setCell _ w.heap.size 1 (.slice a2 D.length c2)) (.inl L3.2)
    have p2' := (HP2.out.win (win_setCell w2 w.heap.size 0 (.slice sa S.length sc)) (.inr (by omega))).win (win_setCell _ w.heap.size 1 (.slice a2 D.length c2)) (.inr (by omega))
    exact ⟨_, _, rfl, p1'.mono (Nat.le_refl _) (by simp only [size_setCell]; omega), p2'.mono (by omega) (by simp only [size_setCell]; omega), p1'.apart p2' (.inl (by omega))⟩
  · have hne : (C != 0) = true := by simpa using h0
    have ED : Hid (D = []) := HD0.out h0
    have EC : Hid (S' = []) := HS2.out h0
    clear h0
    have HR : Hid (((w2.setCell ⟨w.heap.size, 0, none⟩ (.slice none 0 0)).setCell ⟨w.heap.size, 1, none⟩ (.slice none 0 0)).heap[w.heap.size]? = some (.cells #[.slice none 0 0, .slice none 0 0] 26 (0, 0))) := arr_stored Y2.out
    go_wp2
    refine bodyPost_ret (results_arr_tmp Try.results45 _ _ w.heap.size _ _ rfl HR.out) rfl ?_
    refine ⟨_, rfl, ?_, below_setCell (below_setCell HB2.out (Nat.le_refl _) _ _) (Nat.le_refl _) _ _⟩
    rw [EC.out, ED.out]
    exact arr_zero _ _ _
/-- A list of one array, of two, in a block of its own. -/
theorem arrs_one {W : World} {o : Nat} {x y : Value} {t : TypeId} {s d : List Int} (hb : Box W o x y t) (h : ArrI W (.agg #[x, y]) s d) : ArrsI W (.slice (some ⟨o, 0, none⟩) 1 1) [s, d] := by
  obtain ⟨a, c, b, e, e', i1, i2, g1, g2⟩ := h
  obtain ⟨rfl, rfl⟩ : x = .slice a s.length c ∧ y = .slice b d.length e := by cases e'; exact ⟨rfl, rfl⟩
  refine ⟨_, 1, 1, rfl, rfl, .inr ⟨o, 0, [.slice a s.length c, .slice b d.length e], rfl, hb.lt, rfl, fun j hj => ?_⟩⟩
  match j, hj with
  | 0, _ => exact ⟨hb.c0, a, c, rfl, g1, i1⟩
  | 1, _ => exact ⟨hb.c1, b, e, rfl, g2, i2⟩
theorem arrs_two {W : World} {o : Nat} {x y x' y' : Value} {t : TypeId} {s d s' d' : List Int} (hb : W.heap[o]? = some (.cells #[x, y, x', y'] t (0, 0))) (h : ArrI W (.agg #[x, y]) s d) (k : ArrI W (.agg #[x', y']) s' d') : ArrsI W (.slice (some ⟨o, 0, none⟩) 2 2) [s, d, s', d'] := by
  obtain ⟨a, c, b, e, e', i1, i2, g1, g2⟩ := h
  obtain ⟨rfl, rfl⟩ : x = .slice a s.length c ∧ y = .slice b d.length e := by cases e'; exact ⟨rfl, rfl⟩
  obtain ⟨a', c', b', f', e', i3, i4, g3, g4⟩ := k
  obtain ⟨rfl, rfl⟩ : x' = .slice a' s'.length c' ∧ y' = .slice b' d'.length f' := by cases e'; exact ⟨rfl, rfl⟩
  refine ⟨_, 2, 2, rfl, rfl, .inr ⟨o, 0, [.slice a s.length c, .slice b d.length e, .slice a' s'.length c', .slice b' d'.length f'], rfl, lt_of_heapA hb, rfl, fun j hj => ?_⟩⟩
  match j, hj with
  | 0, _ => exact ⟨cell_at hb rfl, a, c, rfl, g1, i1⟩
  | 1, _ => exact ⟨cell_at hb rfl, b, e, rfl, g2, i2⟩
  | 2, _ => exact ⟨cell_at hb rfl, a', c', rfl, g3, i3⟩
  | 3, _ => exact ⟨cell_at hb rfl, b', f', rfl, g4, i4⟩
theorem numsAt_one (s d : List Int) (k : Nat) : numsAt [s, d] 1 k = [numOf s d k] := rfl
theorem numsAt_two (s d s' d' : List Int) (k : Nat) : numsAt [s, d, s', d'] 2 k = [numOf s d k, numOf s' d' k] := rfl
theorem numOf_at {s d : List Int} (ho : arrOk s d = true) {k : Nat} (hk : k < d.length) : numOf s d k = d.getD k 0 := by
  unfold numOf
  by_cases e : s = []
  · subst e
    have z := arrOk_size ho
    rw [sizeV_0'] at z
    rw [if_pos rfl]
    have : k = 0 := by omega
    rw [this]
  · rw [if_neg e]
end Go.Proofs.Ytcpgdhffemecbaa
namespace Go.Proofs.Ytcpgdhffemecbaa
open Go.RowKit
open Go.ChangeMaps (setBlock)
set_option linter.unusedVariables false
set_option linter.unusedSimpArgs false
theorem laidOutE : laidOutB Try.prog = true := by kernel_rfl
theorem rowE : (104 : TypeId) < Try.prog.types.size := of_decide_eq_true (by kernel_rfl)
theorem wideE : (match Try.prog.underlying 104 with | some (.array _ _) | some (.struct _) => true | _ => false) = true := by rw [Try.underlying104]
set_option maxRecDepth 20000 in
theorem lawE : WideMaps.KeyLaw Try.prog 104 := deep_law_laid laidOutE (m := 3) (by omega) rowE (by kernel_rfl) wideE
/-- A shape by value is a key. -/
theorem keyE {n x y z : Int} (hn : (Lit.int .i64 n).wf = true) (hx : (Lit.int .i64 x).wf = true) (hy : (Lit.int .i64 y).wf = true) (hz : (Lit.int .i64 z).wf = true) :
    ∃ l, keyOf Try.prog 104 (.agg #[.int .i64 n, .int .i64 x, .int .i64 y, .int .i64 z]) = some l := by
  have hk : Try.prog.keyType 104 = true := by kernel_rfl
  have c4 : Try.prog.cellsOf 104 = 4 := by kernel_rfl
  have c3 : Try.prog.cellsOf 102 = 3 := by kernel_rfl
  have c1 : Try.prog.cellsOf 3 = 1 := by kernel_rfl
  obtain ⟨d, hd⟩ : ∃ d, Try.prog.types.size + 1 = d + 1 + 1 + 1 := ⟨Try.prog.types.size - 2, by have h : (104 : Nat) < Try.prog.types.size := rowE; omega⟩
  have r3 : List.range 3 = [0, 1, 2] := by decide
  have hl : Try.prog.keyLits (d + 1 + 1 + 1) 104 [.int .i64 n, .int .i64 x, .int .i64 y, .int .i64 z] = some [.int .i64 n, .int .i64 x, .int .i64 y, .int .i64 z] := by
    simp [Program.keyLits, Try.underlying104, Try.underlying102, Try.underlying3, c4, c3, c1, r3, hn, hx, hy, hz]
  refine ⟨.string (keyBytes [.int .i64 n, .int .i64 x, .int .i64 y, .int .i64 z]), ?_⟩
  have hf : (Value.agg #[.int .i64 n, .int .i64 x, .int .i64 y, .int .i64 z]).formed Try.prog 104 = true := by simp [Value.formed, Try.underlying104, c4]
  have e : keyOf Try.prog 104 (.agg #[.int .i64 n, .int .i64 x, .int .i64 y, .int .i64 z]) = if (Try.prog.keyType 104 && (Value.agg #[.int .i64 n, .int .i64 x, .int .i64 y, .int .i64 z]).formed Try.prog 104) = true then (Try.prog.keyLits (Try.prog.types.size + 1) 104 [.int .i64 n, .int .i64 x, .int .i64 y, .int .i64 z]).map fun ls => .string (keyBytes ls) else none := by
    unfold keyOf
    rw [Try.underlying104]
    rfl
  rw [e, hk, hf, hd, hl]
  rfl
theorem find_nil {w : World} {K1 : Value} {l1 : Lit} (h1 : keyOf Try.prog 104 K1 = some l1) : (Instr.findKey 104 K1 []).run Try.prog w = .ok none w := by
  rcases lawE.find w h1 [] (by simp) with ⟨h, _⟩ | ⟨j, e, _, h, _⟩
  · exact h
  · simp at h
theorem find_one {w : World} {K1 : Value} {l1 : Lit} (h1 : keyOf Try.prog 104 K1 = some l1) (v : Value) (s : Nat) : (Instr.findKey 104 K1 [⟨K1, v, s⟩]).run Try.prog w = .ok (some (0, v)) w := by
  rcases lawE.find w h1 [⟨K1, v, s⟩] (by simpa using ⟨l1, h1⟩) with ⟨_, h⟩ | ⟨j, e, h, he, _⟩
  · simp at h
  · match j, he with
    | 0, he => simp at he; subst he; exact h
theorem find_other {w : World} {K1 : Value} {K2 : Value} {l1 : Lit} {l2 : Lit} (h1 : keyOf Try.prog 104 K1 = some l1) (h2 : keyOf Try.prog 104 K2 = some l2) (hne : K1 ≠ K2) (v : Value) (s : Nat) : (Instr.findKey 104 K2 [⟨K1, v, s⟩]).run Try.prog w = .ok none w := by
  rcases lawE.find w h2 [⟨K1, v, s⟩] (by simpa using ⟨l1, h1⟩) with ⟨h, _⟩ | ⟨j, e, _, he, hk⟩
  · exact h
  · match j, he with
    | 0, he => simp at he; subst he; exact absurd hk hne
theorem find_two {w : World} {K1 : Value} {K2 : Value} {l1 : Lit} {l2 : Lit} (h1 : keyOf Try.prog 104 K1 = some l1) (h2 : keyOf Try.prog 104 K2 = some l2) (hne : K1 ≠ K2) (v u : Value) (s t : Nat) : (Instr.findKey 104 K2 [⟨K1, v, s⟩, ⟨K2, u, t⟩]).run Try.prog w = .ok (some (1, u)) w := by
  rcases lawE.find w h2 [⟨K1, v, s⟩, ⟨K2, u, t⟩] (by simpa using ⟨⟨l1, h1⟩, l2, h2⟩) with ⟨_, h⟩ | ⟨j, e, h, he, hk⟩
  · simp at h
  · match j, he with
    | 0, he => simp at he; subst he; exact absurd hk hne
    | 1, he => simp at he; subst he; exact h
theorem zeroI (w : World) : (zeroValue 3).run Try.prog w = .ok (.int .i64 0) w := by kernel_rfl
theorem look_0 {w : World} {K1 : Value} {l1 : Lit} {b : Nat} (hb : w.heap[b]? = some (.map #[] 0)) (h1 : keyOf Try.prog 104 K1 = some l1) :
    (Instr.lookup 123 (.map (some b)) K1 false).run Try.prog w = .ok (.int .i64 0) w := by
  simp [Instr.lookup, run_underlying Try.underlying123, MapKept.run_getObj_map hb, lawE.check w true h1, find_nil h1, zeroI, Result.andThen]
theorem look_1 {w : World} {K1 : Value} {l1 : Lit} {b : Nat} {v : Value} {s c : Nat} (hb : w.heap[b]? = some (.map #[⟨K1, v, s⟩] c)) (h1 : keyOf Try.prog 104 K1 = some l1) :
    (Instr.lookup 123 (.map (some b)) K1 false).run Try.prog w = .ok v w := by
  simp [Instr.lookup, run_underlying Try.underlying123, MapKept.run_getObj_map hb, lawE.check w false h1, find_one h1, Result.andThen]
theorem look_other {w : World} {K1 : Value} {K2 : Value} {l1 : Lit} {l2 : Lit} {b : Nat} {v : Value} {s c : Nat} (hb : w.heap[b]? = some (.map #[⟨K1, v, s⟩] c)) (h1 : keyOf Try.prog 104 K1 = some l1) (h2 : keyOf Try.prog 104 K2 = some l2) (hne : K1 ≠ K2) :
    (Instr.lookup 123 (.map (some b)) K2 false).run Try.prog w = .ok (.int .i64 0) w := by
  simp [Instr.lookup, run_underlying Try.underlying123, MapKept.run_getObj_map hb, lawE.check w false h2, find_other h1 h2 hne, zeroI, Result.andThen]
theorem look_2 {w : World} {K1 : Value} {K2 : Value} {l1 : Lit} {l2 : Lit} {b : Nat} {v u : Value} {s t c : Nat} (hb : w.heap[b]? = some (.map #[⟨K1, v, s⟩, ⟨K2, u, t⟩] c)) (h1 : keyOf Try.prog 104 K1 = some l1) (h2 : keyOf Try.prog 104 K2 = some l2) (hne : K1 ≠ K2) :
    (Instr.lookup 123 (.map (some b)) K2 false).run Try.prog w = .ok u w := by
  simp [Instr.lookup, run_underlying Try.underlying123, MapKept.run_getObj_map hb, lawE.check w false h2, find_two h1 h2 hne, Result.andThen]
theorem entry_0 {w : World} {K1 : Value} {l1 : Lit} {b : Nat} (hb : w.heap[b]? = some (.map #[] 0)) (h1 : keyOf Try.prog 104 K1 = some l1) :
    (Instr.mapEntry 123 (.map (some b)) K1).run Try.prog w = .ok (.tuple #[.int .i64 0, .int .i64 0]) (setBlock w b (.map #[⟨K1, .int .i64 0, 0⟩] 1)) := by
  simp [Instr.mapEntry, run_underlying Try.underlying123, MapKept.run_getObj_map hb, lawE.check w false h1, find_nil h1, zeroI, MapKept.run_setObj_map _ hb, Result.andThen, setBlock, goInt]
theorem entry_1 {w : World} {K1 : Value} {l1 : Lit} {b : Nat} {v : Value} {c : Nat} (hb : w.heap[b]? = some (.map #[⟨K1, v, 0⟩] c)) (h1 : keyOf Try.prog 104 K1 = some l1) :
    (Instr.mapEntry 123 (.map (some b)) K1).run Try.prog w = .ok (.tuple #[v, .int .i64 0]) (setBlock w b (.map #[⟨K1, v, 0⟩] c)) := by
  simp [Instr.mapEntry, run_underlying Try.underlying123, MapKept.run_getObj_map hb, lawE.check w false h1, find_one h1, lawE.stays w h1, MapKept.run_setObj_map _ hb, Result.andThen, setBlock, goInt]
theorem entry_other {w : World} {K1 : Value} {K2 : Value} {l1 : Lit} {l2 : Lit} {b : Nat} {v : Value} {s : Nat} (hb : w.heap[b]? = some (.map #[⟨K1, v, s⟩] 1)) (h1 : keyOf Try.prog 104 K1 = some l1) (h2 : keyOf Try.prog 104 K2 = some l2) (hne : K1 ≠ K2) :
    (Instr.mapEntry 123 (.map (some b)) K2).run Try.prog w = .ok (.tuple #[.int .i64 0, .int .i64 1]) (setBlock w b (.map #[⟨K1, v, s⟩, ⟨K2, .int .i64 0, 1⟩] 2)) := by
  simp [Instr.mapEntry, run_underlying Try.underlying123, MapKept.run_getObj_map hb, lawE.check w false h2, find_other h1 h2 hne, zeroI, MapKept.run_setObj_map _ hb, Result.andThen, setBlock, goInt]
theorem store_1 {w : World} {K1 : Value} {b : Nat} {v : Value} {c : Nat} (u : Value) (hb : w.heap[b]? = some (.map #[⟨K1, v, 0⟩] c)) :
    (Instr.entryStore 123 (.map (some b)) (.int .i64 0) u).run Try.prog w = .ok () (setBlock w b (.map #[⟨K1, u, 0⟩] c)) := by
  simp [Instr.entryStore, MapKept.run_getObj_map hb, asInt, asIntOf, MapKept.run_setObj_map _ hb, Result.andThen, setBlock]
theorem store_2 {w : World} {K1 : Value} {K2 : Value} {b : Nat} {v v' : Value} {c : Nat} (u : Value) (hb : w.heap[b]? = some (.map #[⟨K1, v, 0⟩, ⟨K2, v', 1⟩] c)) :
    (Instr.entryStore 123 (.map (some b)) (.int .i64 1) u).run Try.prog w = .ok () (setBlock w b (.map #[⟨K1, v, 0⟩, ⟨K2, u, 1⟩] c)) := by
  simp [Instr.entryStore, List.findIdx?_cons, MapKept.run_getObj_map hb, asInt, asIntOf, MapKept.run_setObj_map _ hb, Result.andThen, setBlock]
end Go.Proofs.Ytcpgdhffemecbaa
namespace Go.Proofs.Ytcpgdhffemecbaa
open Go.RowKit
open Go.ChangeMaps (setBlock)
set_option linter.unusedVariables false
set_option linter.unusedSimpArgs false
theorem setBlock_at {w : World} {b : Nat} {o : Obj} (h : b < w.heap.size) : (setBlock w b o).heap[b]? = some o := by simp [setBlock, h]
theorem setBlock_but (w : World) (b : Nat) (o : Obj) : But b w (setBlock w b o) :=
  ⟨rfl, rfl, rfl, by simp [setBlock], fun k _ hk => by simp only [setBlock]; rw [Array.getElem?_setIfInBounds_ne (Ne.symm hk)]⟩
theorem lt_of_heap {w : World} {b : Nat} {o : Obj} (h : w.heap[b]? = some o) : b < w.heap.size := (Array.getElem?_eq_some_iff.1 h).1
theorem setBlock_size (w : World) (b : Nat) (o : Obj) : (setBlock w b o).heap.size = w.heap.size := by simp [setBlock]
theorem step_first {K1 : Value} {l1 : Lit} {b : Nat} (W : World) (hm : W.heap[b]? = some (.map #[] 0)) (h1 : keyOf Try.prog 104 K1 = some l1) :
    ∃ W1 W2, (Instr.lookup 123 (.map (some b)) K1 false).run Try.prog W = .ok (.int .i64 0) W ∧ (Instr.mapEntry 123 (.map (some b)) K1).run Try.prog W = .ok (.tuple #[.int .i64 0, .int .i64 0]) W1 ∧
      (Instr.lookup 123 (.map (some b)) K1 false).run Try.prog W1 = .ok (.int .i64 0) W1 ∧ (Instr.entryStore 123 (.map (some b)) (.int .i64 0) (.int .i64 1)).run Try.prog W1 = .ok () W2 ∧
      W2.heap[b]? = some (.map #[⟨K1, .int .i64 1, 0⟩] 1) ∧ But b W W2 ∧ W2.heap.size = W.heap.size := by
  have hb := lt_of_heap hm
  have q : (setBlock W b (.map #[⟨K1, .int .i64 0, 0⟩] 1)).heap[b]? = some (.map #[⟨K1, .int .i64 0, 0⟩] 1) := setBlock_at hb
  refine ⟨_, _, look_0 hm h1, entry_0 hm h1, look_1 q h1, store_1 (.int .i64 1) q, setBlock_at (by rw [setBlock_size]; exact hb), (setBlock_but _ _ _).trans (setBlock_but _ _ _), by rw [setBlock_size, setBlock_size]⟩
theorem step_same {K1 : Value} {l1 : Lit} {b : Nat} (W : World) (hm : W.heap[b]? = some (.map #[⟨K1, .int .i64 1, 0⟩] 1)) (h1 : keyOf Try.prog 104 K1 = some l1) :
    ∃ W1 W2, (Instr.lookup 123 (.map (some b)) K1 false).run Try.prog W = .ok (.int .i64 1) W ∧ (Instr.mapEntry 123 (.map (some b)) K1).run Try.prog W = .ok (.tuple #[.int .i64 1, .int .i64 0]) W1 ∧
      (Instr.lookup 123 (.map (some b)) K1 false).run Try.prog W1 = .ok (.int .i64 1) W1 ∧ (Instr.entryStore 123 (.map (some b)) (.int .i64 0) (.int .i64 2)).run Try.prog W1 = .ok () W2 ∧
      W2.heap[b]? = some (.map #[⟨K1, .int .i64 2, 0⟩] 1) ∧ But b W W2 := by
  have hb := lt_of_heap hm
  have q : (setBlock W b (.map #[⟨K1, .int .i64 1, 0⟩] 1)).heap[b]? = some (.map #[⟨K1, .int .i64 1, 0⟩] 1) := setBlock_at hb
  exact ⟨_, _, look_1 hm h1, entry_1 hm h1, look_1 q h1, store_1 (.int .i64 2) q, setBlock_at (by rw [setBlock_size]; exact hb), (setBlock_but _ _ _).trans (setBlock_but _ _ _)⟩
theorem step_other {K1 : Value} {K2 : Value} {l1 : Lit} {l2 : Lit} {b : Nat} (W : World) (hm : W.heap[b]? = some (.map #[⟨K1, .int .i64 1, 0⟩] 1)) (h1 : keyOf Try.prog 104 K1 = some l1) (h2 : keyOf Try.prog 104 K2 = some l2) (hne : K1 ≠ K2) :
    ∃ W1 W2, (Instr.lookup 123 (.map (some b)) K2 false).run Try.prog W = .ok (.int .i64 0) W ∧ (Instr.mapEntry 123 (.map (some b)) K2).run Try.prog W = .ok (.tuple #[.int .i64 0, .int .i64 1]) W1 ∧
      (Instr.lookup 123 (.map (some b)) K2 false).run Try.prog W1 = .ok (.int .i64 0) W1 ∧ (Instr.entryStore 123 (.map (some b)) (.int .i64 1) (.int .i64 1)).run Try.prog W1 = .ok () W2 ∧
      W2.heap[b]? = some (.map #[⟨K1, .int .i64 1, 0⟩, ⟨K2, .int .i64 1, 1⟩] 2) ∧ But b W W2 := by
  have hb := lt_of_heap hm
  have q : (setBlock W b (.map #[⟨K1, .int .i64 1, 0⟩, ⟨K2, .int .i64 0, 1⟩] 2)).heap[b]? = some (.map #[⟨K1, .int .i64 1, 0⟩, ⟨K2, .int .i64 0, 1⟩] 2) := setBlock_at hb
  exact ⟨_, _, look_other hm h1 h2 hne, entry_other hm h1 h2 hne, look_2 q h1 h2 hne, store_2 (.int .i64 1) q, setBlock_at (by rw [setBlock_size]; exact hb), (setBlock_but _ _ _).trans (setBlock_but _ _ _)⟩
theorem len_map {b : Nat} {W : World} {es : Array MapEntry} {c : Nat} (ty : TypeId) (hm : W.heap[b]? = some (.map es c)) : (Builtin.len_ #[123] ty #[.map (some b)]).run Try.prog W = .ok (.int .i64 es.size) W := by
  simp [Builtin.len_, Builtin.lenOf, MapKept.run_getObj_map hm, run_underlying Try.underlying123, goInt, Result.andThen]
set_option maxRecDepth 20000 in
set_option maxHeartbeats 4000000 in
theorem alike_one (n x y z : Int) (g : Nat) (w : World) (l1 : Lit)
    (h1 : keyOf Try.prog 104 (.agg #[.int .i64 n, .int .i64 x, .int .i64 y, .int .i64 z]) = some l1)
    (hg : g < w.heap.size)
    (c0 : w.cell? ⟨g, 0, none⟩ = some (.int .i64 n)) (c1 : w.cell? ⟨g, 1, none⟩ = some (.int .i64 x)) (c2 : w.cell? ⟨g, 2, none⟩ = some (.int .i64 y)) (c3 : w.cell? ⟨g, 3, none⟩ = some (.int .i64 z)) (c4 : w.cell? ⟨g, 4, none⟩ = some (.int .i64 n)) (c5 : w.cell? ⟨g, 5, none⟩ = some (.int .i64 x)) (c6 : w.cell? ⟨g, 6, none⟩ = some (.int .i64 y)) (c7 : w.cell? ⟨g, 7, none⟩ = some (.int .i64 z)) :
    Calls Try.prog 120 #[.slice (some ⟨g, 0, none⟩) 2 2] w fun e w' => e = .returned (.bool true) ∧ Below w.heap.size w w' := by
  have K1 : Hid (keyOf Try.prog 104 (.agg #[.int .i64 n, .int .i64 x, .int .i64 y, .int .i64 z]) = some l1) := h1
  clear h1
  have hmm := @run_makeMap Try.prog
  go_enter Try.func120, Try.ntmps120
  go_wp2
  refine wp_loop_rounds 3 ?_
  rw [rounds_succ]
  go_wp2
  generalize hW : World.alloc (World.alloc w (.map #[] 0)) (.cells #[.int .i64 n, .int .i64 x, .int .i64 y, .int .i64 z] 104) = W
  have HB : Hid (Below w.heap.size w W) := by rw [← hW]; exact bAlloc (bAlloc (Below.refl _ _) _) _
  have hm : W.heap[w.heap.size]? = some (.map #[] 0) := by rw [← hW]; exact heap_alloc2_old w _ _
  have e0 : W.cell? ⟨w.heap.size + 1, 0, none⟩ = some (.int .i64 n) := by rw [← hW]; simp
  have e1 : W.cell? ⟨w.heap.size + 1, 1, none⟩ = some (.int .i64 x) := by rw [← hW]; simp
  have e2 : W.cell? ⟨w.heap.size + 1, 2, none⟩ = some (.int .i64 y) := by rw [← hW]; simp
  have e3 : W.cell? ⟨w.heap.size + 1, 3, none⟩ = some (.int .i64 z) := by rw [← hW]; simp
  clear hW
  obtain ⟨W1, W2, f1, f2, f3, f4, m2, hbut, hsz⟩ := step_first (b := w.heap.size) W.drew hm K1.out
  have M2 : Hid (W2.heap[w.heap.size]? = some (.map #[⟨.agg #[.int .i64 n, .int .i64 x, .int .i64 y, .int .i64 z], .int .i64 1, 0⟩] 1)) := m2
  have HB2 : Hid (Below w.heap.size w W2) := (HB.out.drew).trans (hbut.below (Nat.le_refl _) HB.out.size)
  clear m2 hbut hsz
  go_region
  clear f1 f2 f3 f4 hm e0 e1 e2 e3 c0 c1 c2 c3
  clear W1 HB W
  have d4 : W2.cell? ⟨g, 4, none⟩ = some (.int .i64 n) := by rw [HB2.out.cell (p := ⟨g, 4, none⟩) hg]; exact c4
  have d5 : W2.cell? ⟨g, 5, none⟩ = some (.int .i64 x) := by rw [HB2.out.cell (p := ⟨g, 5, none⟩) hg]; exact c5
  have d6 : W2.cell? ⟨g, 6, none⟩ = some (.int .i64 y) := by rw [HB2.out.cell (p := ⟨g, 6, none⟩) hg]; exact c6
  have d7 : W2.cell? ⟨g, 7, none⟩ = some (.int .i64 z) := by rw [HB2.out.cell (p := ⟨g, 7, none⟩) hg]; exact c7
  clear c4 c5 c6 c7
  go_wp2
  rw [rounds_succ]
  go_wp2
  generalize hW : World.alloc W2 (.cells #[.int .i64 n, .int .i64 x, .int .i64 y, .int .i64 z] 104) = W
  have HB : Hid (Below w.heap.size w W) := by rw [← hW]; exact bAlloc HB2.out _
  have hm : W.heap[w.heap.size]? = some (.map #[⟨.agg #[.int .i64 n, .int .i64 x, .int .i64 y, .int .i64 z], .int .i64 1, 0⟩] 1) := by rw [← hW, heap_alloc_old _ _ (lt_of_heap M2.out)]; exact M2.out
  have e0 : W.cell? ⟨W2.heap.size, 0, none⟩ = some (.int .i64 n) := by rw [← hW]; exact cell_new _ _ _ rfl
  have e1 : W.cell? ⟨W2.heap.size, 1, none⟩ = some (.int .i64 x) := by rw [← hW]; exact cell_new _ _ _ rfl
  have e2 : W.cell? ⟨W2.heap.size, 2, none⟩ = some (.int .i64 y) := by rw [← hW]; exact cell_new _ _ _ rfl
  have e3 : W.cell? ⟨W2.heap.size, 3, none⟩ = some (.int .i64 z) := by rw [← hW]; exact cell_new _ _ _ rfl
  clear hW d4 d5 d6 d7
  obtain ⟨W3, W4, f1, f2, f3, f4, m4, hbut⟩ := step_same (b := w.heap.size) W.drew hm K1.out
  have HB4 : Hid (Below w.heap.size w W4) := (HB.out.drew).trans (hbut.below (Nat.le_refl _) HB.out.size)
  have hlen : ∀ ty, (Builtin.len_ #[123] ty #[.map (some w.heap.size)]).run Try.prog W4 = .ok (.int .i64 1) W4 := fun ty => len_map ty m4
  clear m4 hbut
  go_region
  clear f1 f2 f3 f4 hm e0 e1 e2 e3
  go_wp2
  rw [rounds_succ]
  go_wp2
  go_ret
  exact ⟨rfl, HB4.out⟩
set_option maxRecDepth 20000 in
set_option maxHeartbeats 4000000 in
theorem alike_two (n x y z n' x' y' z' : Int) (g : Nat) (w : World) (l1 l2 : Lit)
    (h1 : keyOf Try.prog 104 (.agg #[.int .i64 n, .int .i64 x, .int .i64 y, .int .i64 z]) = some l1) (h2 : keyOf Try.prog 104 (.agg #[.int .i64 n', .int .i64 x', .int .i64 y', .int .i64 z']) = some l2)
    (hg : g < w.heap.size)
    (c0 : w.cell? ⟨g, 0, none⟩ = some (.int .i64 n)) (c1 : w.cell? ⟨g, 1, none⟩ = some (.int .i64 x)) (c2 : w.cell? ⟨g, 2, none⟩ = some (.int .i64 y)) (c3 : w.cell? ⟨g, 3, none⟩ = some (.int .i64 z)) (c4 : w.cell? ⟨g, 4, none⟩ = some (.int .i64 n')) (c5 : w.cell? ⟨g, 5, none⟩ = some (.int .i64 x')) (c6 : w.cell? ⟨g, 6, none⟩ = some (.int .i64 y')) (c7 : w.cell? ⟨g, 7, none⟩ = some (.int .i64 z'))
    (hne : (Value.agg #[.int .i64 n, .int .i64 x, .int .i64 y, .int .i64 z]) ≠ .agg #[.int .i64 n', .int .i64 x', .int .i64 y', .int .i64 z']) :
    Calls Try.prog 120 #[.slice (some ⟨g, 0, none⟩) 2 2] w fun e w' => e = .returned (.bool false) ∧ Below w.heap.size w w' := by
  have K1 : Hid (keyOf Try.prog 104 (.agg #[.int .i64 n, .int .i64 x, .int .i64 y, .int .i64 z]) = some l1) := h1
  have K2 : Hid (keyOf Try.prog 104 (.agg #[.int .i64 n', .int .i64 x', .int .i64 y', .int .i64 z']) = some l2) := h2
  have NE : Hid ((Value.agg #[.int .i64 n, .int .i64 x, .int .i64 y, .int .i64 z]) ≠ .agg #[.int .i64 n', .int .i64 x', .int .i64 y', .int .i64 z']) := hne
  clear h1 h2 hne
  have hmm := @run_makeMap Try.prog
  go_enter Try.func120, Try.ntmps120
  go_wp2
  refine wp_loop_rounds 3 ?_
  rw [rounds_succ]
  go_wp2
  generalize hW : World.alloc (World.alloc w (.map #[] 0)) (.cells #[.int .i64 n, .int .i64 x, .int .i64 y, .int .i64 z] 104) = W
  have HB : Hid (Below w.heap.size w W) := by rw [← hW]; exact bAlloc (bAlloc (Below.refl _ _) _) _
  have hm : W.heap[w.heap.size]? = some (.map #[] 0) := by rw [← hW]; exact heap_alloc2_old w _ _
  have e0 : W.cell? ⟨w.heap.size + 1, 0, none⟩ = some (.int .i64 n) := by rw [← hW]; simp
  have e1 : W.cell? ⟨w.heap.size + 1, 1, none⟩ = some (.int .i64 x) := by rw [← hW]; simp
  have e2 : W.cell? ⟨w.heap.size + 1, 2, none⟩ = some (.int .i64 y) := by rw [← hW]; simp
  have e3 : W.cell? ⟨w.heap.size + 1, 3, none⟩ = some (.int .i64 z) := by rw [← hW]; simp
  clear hW
  obtain ⟨W1, W2, f1, f2, f3, f4, m2, hbut, hsz⟩ := step_first (b := w.heap.size) W.drew hm K1.out
  have M2 : Hid (W2.heap[w.heap.size]? = some (.map #[⟨.agg #[.int .i64 n, .int .i64 x, .int .i64 y, .int .i64 z], .int .i64 1, 0⟩] 1)) := m2
  have HB2 : Hid (Below w.heap.size w W2) := (HB.out.drew).trans (hbut.below (Nat.le_refl _) HB.out.size)
  clear m2 hbut hsz
  go_region
  clear f1 f2 f3 f4 hm e0 e1 e2 e3 c0 c1 c2 c3
  clear W1 HB W
  have d4 : W2.cell? ⟨g, 4, none⟩ = some (.int .i64 n') := by rw [HB2.out.cell (p := ⟨g, 4, none⟩) hg]; exact c4
  have d5 : W2.cell? ⟨g, 5, none⟩ = some (.int .i64 x') := by rw [HB2.out.cell (p := ⟨g, 5, none⟩) hg]; exact c5
  have d6 : W2.cell? ⟨g, 6, none⟩ = some (.int .i64 y') := by rw [HB2.out.cell (p := ⟨g, 6, none⟩) hg]; exact c6
  have d7 : W2.cell? ⟨g, 7, none⟩ = some (.int .i64 z') := by rw [HB2.out.cell (p := ⟨g, 7, none⟩) hg]; exact c7
  clear c4 c5 c6 c7
  go_wp2
  rw [rounds_succ]
  go_wp2
  generalize hW : World.alloc W2 (.cells #[.int .i64 n', .int .i64 x', .int .i64 y', .int .i64 z'] 104) = W
  have HB : Hid (Below w.heap.size w W) := by rw [← hW]; exact bAlloc HB2.out _
  have hm : W.heap[w.heap.size]? = some (.map #[⟨.agg #[.int .i64 n, .int .i64 x, .int .i64 y, .int .i64 z], .int .i64 1, 0⟩] 1) := by rw [← hW, heap_alloc_old _ _ (lt_of_heap M2.out)]; exact M2.out
  have e0 : W.cell? ⟨W2.heap.size, 0, none⟩ = some (.int .i64 n') := by rw [← hW]; exact cell_new _ _ _ rfl
  have e1 : W.cell? ⟨W2.heap.size, 1, none⟩ = some (.int .i64 x') := by rw [← hW]; exact cell_new _ _ _ rfl
  have e2 : W.cell? ⟨W2.heap.size, 2, none⟩ = some (.int .i64 y') := by rw [← hW]; exact cell_new _ _ _ rfl
  have e3 : W.cell? ⟨W2.heap.size, 3, none⟩ = some (.int .i64 z') := by rw [← hW]; exact cell_new _ _ _ rfl
  clear hW d4 d5 d6 d7
  obtain ⟨W3, W4, f1, f2, f3, f4, m4, hbut⟩ := step_other (b := w.heap.size) W.drew hm K1.out K2.out NE.out
  have HB4 : Hid (Below w.heap.size w W4) := (HB.out.drew).trans (hbut.below (Nat.le_refl _) HB.out.size)
  have hlen : ∀ ty, (Builtin.len_ #[123] ty #[.map (some w.heap.size)]).run Try.prog W4 = .ok (.int .i64 2) W4 := fun ty => len_map ty m4
  clear m4 hbut
  go_region
  clear f1 f2 f3 f4 hm e0 e1 e2 e3
  go_wp2
  rw [rounds_succ]
  go_wp2
  go_ret
  exact ⟨rfl, HB4.out⟩
end Go.Proofs.Ytcpgdhffemecbaa
namespace Go.Proofs.Ytcpgdhffemecbaa
open Go.RowKit
set_option linter.unusedVariables false
theorem ext_eq {l m : List Int} {n n' : Nat} {x y z x' y' z' : Int} (h1 : Ext l n x y z) (h2 : Ext m n' x' y' z') (k1 : l.length ≤ 3) (k2 : m.length ≤ 3) (e : (n : Int) = n' ∧ x = x' ∧ y = y' ∧ z = z') : l = m := by
  obtain ⟨rfl, rfl, rfl, rfl⟩ := h1
  obtain ⟨rfl, rfl, rfl, rfl⟩ := h2
  obtain ⟨e0, e1, e2, e3⟩ := e
  have e0 : l.length = m.length := by omega
  apply List.ext_getElem e0
  intro i a b
  have : i = 0 ∨ i = 1 ∨ i = 2 := by omega
  rcases this with rfl | rfl | rfl
  · simpa [a, b] using e1
  · simpa [a, b] using e2
  · simpa [a, b] using e3
theorem ext_wf {l : List Int} {n : Nat} {x y z : Int} (hs : 0 ≤ sizeV l) (he : Ext l n x y z) : (Lit.int .i64 (n : Int)).wf = true ∧ (Lit.int .i64 x).wf = true ∧ (Lit.int .i64 y).wf = true ∧ (Lit.int .i64 z).wf = true := by
  obtain ⟨rfl, rfl, rfl, rfl⟩ := he
  obtain ⟨k1, k2, k3, k4⟩ := sizeV_ok hs
  have d : ∀ k, 0 ≤ l.getD k 0 ∧ l.getD k 0 ≤ 300 := by
    intro k
    by_cases hk : k < l.length
    · rw [List.all_eq_true] at k2
      exact dimOk_bd (k2 _ (by simp [hk]))
    · simp [List.getD, List.getElem?_eq_none (Nat.le_of_not_lt hk)]
  have d0 := d 0
  have d1 := d 1
  have d2 := d 2
  exact ⟨WalkArith.wf_i64 (by omega), WalkArith.wf_i64 (by omega), WalkArith.wf_i64 (by omega), WalkArith.wf_i64 (by omega)⟩
/-- Whether two shapes by value are one. -/
theorem alike_ext {l m : List Int} {n n' : Nat} {x y z x' y' z' : Int} (hs : 0 ≤ sizeV l) (ht : 0 ≤ sizeV m) (h1 : Ext l n x y z) (h2 : Ext m n' x' y' z') (g : Nat) (w : World) (hg : g < w.heap.size)
    (c0 : w.cell? ⟨g, 0, none⟩ = some (.int .i64 n)) (c1 : w.cell? ⟨g, 1, none⟩ = some (.int .i64 x)) (c2 : w.cell? ⟨g, 2, none⟩ = some (.int .i64 y)) (c3 : w.cell? ⟨g, 3, none⟩ = some (.int .i64 z))
    (c4 : w.cell? ⟨g, 4, none⟩ = some (.int .i64 n')) (c5 : w.cell? ⟨g, 5, none⟩ = some (.int .i64 x')) (c6 : w.cell? ⟨g, 6, none⟩ = some (.int .i64 y')) (c7 : w.cell? ⟨g, 7, none⟩ = some (.int .i64 z')) :
    Calls Try.prog 120 #[.slice (some ⟨g, 0, none⟩) 2 2] w fun e w' => e = .returned (.bool (decide (l = m))) ∧ Below w.heap.size w w' := by
  obtain ⟨a0, a1, a2, a3⟩ := ext_wf hs h1
  obtain ⟨b0, b1, b2, b3⟩ := ext_wf ht h2
  obtain ⟨l1, k1⟩ := keyE a0 a1 a2 a3
  obtain ⟨l2, k2⟩ := keyE b0 b1 b2 b3
  by_cases e : (n : Int) = n' ∧ x = x' ∧ y = y' ∧ z = z'
  · have q := ext_eq h1 h2 (sizeV_ok hs).1 (sizeV_ok ht).1 e
    obtain ⟨e0, rfl, rfl, rfl⟩ := e
    rw [show decide (l = m) = true by simpa using q]
    rw [← e0] at c4
    exact alike_one n x y z g w l1 k1 hg c0 c1 c2 c3 c4 c5 c6 c7
  · have q : ¬ l = m := by
      rintro rfl
      obtain ⟨rfl, rfl, rfl, rfl⟩ := h1
      obtain ⟨rfl, rfl, rfl, rfl⟩ := h2
      exact e ⟨rfl, rfl, rfl, rfl⟩
    rw [show decide (l = m) = false by simpa using q]
    exact alike_two n x y z n' x' y' z' g w l1 l2 k1 k2 hg c0 c1 c2 c3 c4 c5 c6 c7 (by
      intro h
      simp at h
      exact e ⟨by omega, h.2⟩)
set_option maxRecDepth 20000 in
set_option maxHeartbeats 2000000 in
/-- ShapeSame, whatever lists it is given. -/
theorem same_impl {l m : List Int} {a b : Option Addr} {w : World} (c d : Nat) (h1 : Ints w a l) (h2 : Ints w b m) :
    Calls Try.prog 87 #[.slice a l.length c, .slice b m.length d] w fun e w' => e = .returned (.bool (decide (0 ≤ sizeV l) && decide (l = m))) ∧ Below w.heap.size w w' := by
  have H1 : Hid (Ints w a l) := h1
  have H2 : Hid (Ints w b m) := h2
  clear h1 h2
  by_cases hs : 0 ≤ sizeV l
  · have hs' : decide (0 ≤ sizeV l) = true := by simpa using hs
    have HS : Hid (0 ≤ sizeV l) := hs
    by_cases ht : 0 ≤ sizeV m
    · have ht' : decide (0 ≤ sizeV m) = true := by simpa using ht
      have HT : Hid (0 ≤ sizeV m) := ht
      clear hs ht
      generalize hq : decide (l = m) = q
      have HQ : Hid (decide (l = m) = q) := hq
      clear hq
      go_enter Try.func87, Try.ntmps87
      go_wp2_with fail
      refine (ext_impl _ H1.out).mono ?_
      rintro e w1 ⟨n, x, y, z, rfl, he, hb⟩
      have HE : Hid (Ext l n x y z) := he HS.out
      have HB : Hid (Below w.heap.size w w1) := hb
      clear he hb
      go_wp2_with fail
      refine (ext_impl _ ((H2.out.keep HB.out).alloc _)).mono ?_
      rintro e w2 ⟨n', x', y', z', rfl, he, hb⟩
      have HE2 : Hid (Ext m n' x' y' z') := he HT.out
      have HB2 : Hid (Below w.heap.size w w2) := bTrans (bAlloc HB.out _) hb
      have r0 : ∀ o : Obj, (w2.alloc o).cell? ⟨w1.heap.size, 0, none⟩ = some (.int .i64 n) := fun o => by rw [(bAlloc hb o).cell (p := ⟨w1.heap.size, 0, none⟩) (by simp)]; exact cell_new _ _ _ rfl
      have r1 : ∀ o : Obj, (w2.alloc o).cell? ⟨w1.heap.size, 1, none⟩ = some (.int .i64 x) := fun o => by rw [(bAlloc hb o).cell (p := ⟨w1.heap.size, 1, none⟩) (by simp)]; exact cell_new _ _ _ rfl
      have r2 : ∀ o : Obj, (w2.alloc o).cell? ⟨w1.heap.size, 2, none⟩ = some (.int .i64 y) := fun o => by rw [(bAlloc hb o).cell (p := ⟨w1.heap.size, 2, none⟩) (by simp)]; exact cell_new _ _ _ rfl
      have r3 : ∀ o : Obj, (w2.alloc o).cell? ⟨w1.heap.size, 3, none⟩ = some (.int .i64 z) := fun o => by rw [(bAlloc hb o).cell (p := ⟨w1.heap.size, 3, none⟩) (by simp)]; exact cell_new _ _ _ rfl
      clear he hb
      go_wp2_with fail
      refine (alike_ext HS.out HT.out HE.out HE2.out (w2.heap.size + 1) _ (by simp) (by simp) (by simp) (by simp) (by simp) (by simp) (by simp) (by simp) (by simp)).mono ?_
      rintro e w3 ⟨rfl, hb⟩
      have HB3 : Hid (Below w.heap.size w w3) := bTrans (bAlloc (bAlloc HB2.out _) _) hb
      clear hb
      rw [HQ.out]
      go_wp2
      go_ret
      exact ⟨by simp [hs'], HB3.out⟩
    · have ht' : decide (0 ≤ sizeV m) = false := by simpa using ht
      have hne : l ≠ m := fun e => ht (e ▸ hs)
      have HN : Hid (l ≠ m) := hne
      clear hs ht hne
      go_enter Try.func87, Try.ntmps87
      go_wp2_with fail
      refine (ext_impl _ H1.out).mono ?_
      rintro e w1 ⟨n, x, y, z, rfl, he, hb⟩
      have HB : Hid (Below w.heap.size w w1) := hb
      clear he hb
      go_wp2_with fail
      refine (ext_impl _ ((H2.out.keep HB.out).alloc _)).mono ?_
      rintro e w2 ⟨n', x', y', z', rfl, he, hb⟩
      have HB2 : Hid (Below w.heap.size w w2) := bTrans (bAlloc HB.out _) hb
      clear he hb
      go_wp2
      go_ret
      exact ⟨by simp [HN.out], bAlloc HB2.out _⟩
  · have hs' : decide (0 ≤ sizeV l) = false := by simpa using hs
    clear hs
    go_enter Try.func87, Try.ntmps87
    go_wp2_with fail
    refine (ext_impl _ H1.out).mono ?_
    rintro e w1 ⟨n, x, y, z, rfl, he, hb⟩
    have HB : Hid (Below w.heap.size w w1) := hb
    clear he hb
    go_wp2_with fail
    refine (ext_impl _ ((H2.out.keep HB.out).alloc _)).mono ?_
    rintro e w2 ⟨n', x', y', z', rfl, he, hb⟩
    have HB2 : Hid (Below w.heap.size w w2) := bTrans (bAlloc HB.out _) hb
    clear he hb
    generalize decide (0 ≤ sizeV m) = q
    go_wp2
    go_ret
    exact ⟨by simp [hs'], bAlloc HB2.out _⟩
end Go.Proofs.Ytcpgdhffemecbaa
namespace Go.Proofs.Ytcpgdhffemecbaa
open Go.RowKit
set_option linter.unusedVariables false
set_option linter.unusedSimpArgs false
theorem fitC_no {s d t e : List Int} (h : ¬ (arrOk s d = true ∧ arrOk t e = true)) : fitC s d t e = 1 := by unfold fitC; rw [if_neg h]
set_option maxRecDepth 20000 in
set_option maxHeartbeats 4000000 in
/-- Fit. -/
theorem fit_impl {s d t e : List Int} {w : World} {v u : Value} (h : ArrI w v s d) (k : ArrI w u t e) (hs : s.length ≤ 1048576) (hd : d.length ≤ 1048576) (ht : t.length ≤ 1048576) (he : e.length ≤ 1048576) :
    Calls Try.prog 43 #[v, u] w fun r w' => ∃ v', r = .returned (.tuple #[v', .int .i64 (fitC s d t e)]) ∧ Piece w.heap.size w'.heap.size w' v' (fitS s d t e) ∧ Below w.heap.size w w' := by
  have H : Hid (ArrI w v s d) := h
  have K : Hid (ArrI w u t e) := k
  obtain ⟨a, c, b, f, rfl, h1, h2, g1, g2⟩ := h
  obtain ⟨a', c', b', f', rfl, k1, k2, g3, g4⟩ := k
  have H1 : Hid (IntsI w (.slice a s.length c) s) := ⟨a, c, rfl, g1, h1⟩
  have K1 : Hid (IntsI w (.slice a' t.length c') t) := ⟨a', c', rfl, g3, k1⟩
  have I1 : Hid (Ints w a s) := h1
  have I2 : Hid (Ints w a' t) := k1
  have HS : Hid (s.length ≤ 1048576) := hs
  have HD : Hid (d.length ≤ 1048576) := hd
  have HT : Hid (t.length ≤ 1048576) := ht
  have HE : Hid (e.length ≤ 1048576) := he
  clear h1 h2 k1 k2 hs hd ht he g1 g2 g3 g4
  by_cases ho : arrOk s d = true
  · have HO : Hid (arrOk s d = true) := ho
    by_cases ho' : arrOk t e = true
    · have HO' : Hid (arrOk t e = true) := ho'
      have key : Hid (fitC s d t e = if s = [] ∨ t = [] then 0 else if s.length ≠ t.length then 4 else if s ≠ t then 3 else 0) := by show _ = _; unfold fitC; rw [if_pos ⟨ho, ho'⟩]
      have fs : Hid (fitS s d t e = if fitC s d t e = 0 then (if s = [] then t else s) else []) := rfl
      have SH : Hid (decide (0 ≤ sizeV s) = true) := by show _ = _; simpa using arrOk_shape ho
      clear ho ho'
      go_enter Try.func43, Try.ntmps43
      go_wp2_with fail
      refine (arrOk_impl (H.out.keep (bAlloc (bAlloc (Below.refl _ _) _) _)) HD.out).mono ?_
      rintro r w1 ⟨rfl, hb⟩
      have HB1 : Hid (Below w.heap.size w w1) := bTrans (bAlloc (bAlloc (Below.refl _ _) _) _) hb
      have X1 : Hid (Box w1 w.heap.size (.slice a s.length c) (.slice b d.length f) 26) := ((box_new w _ _ _).keep (bAlloc (Below.refl _ _) _)).keep hb
      have Y1 : Hid (Box w1 (w.heap.size + 1) (.slice a' t.length c') (.slice b' e.length f') 26) := (box_new2 w _ _ _ _).keep hb
      have x0 := X1.out.c0
      have x1 := X1.out.c1
      have y0 := Y1.out.c0
      have y1 := Y1.out.c1
      clear hb
      rw [HO.out]
      go_wp2_with fail
      refine (arrOk_impl (K.out.keep HB1.out) HE.out).mono ?_
      rintro r w2 ⟨rfl, hb⟩
      have HB2 : Hid (Below w.heap.size w w2) := bTrans HB1.out hb
      have X2 : Hid (Box w2 w.heap.size (.slice a s.length c) (.slice b d.length f) 26) := X1.out.keep hb
      have Y2 : Hid (Box w2 (w.heap.size + 1) (.slice a' t.length c') (.slice b' e.length f') 26) := Y1.out.keep hb
      clear hb x0 x1 y0 y1 X1 Y1 HB1
      have x0 := X2.out.c0
      have y0 := Y2.out.c0
      rw [HO'.out]
      by_cases e1 : s = []
      · subst e1
        have EC : Hid (fitC [] d t e = 0) := by show _ = _; rw [key.out, if_pos (.inl rfl)]
        have ES : Hid (fitS [] d t e = t) := by show _ = _; rw [fs.out, if_pos EC.out, if_pos rfl]
        go_wp2_with fail
        refine (copied_new (K1.out.keep HB2.out) HT.out).mono ?_
        rintro r w9 ⟨a9, c9, rfl, hp, hb⟩
        have P9 : Hid (Piece w.heap.size w9.heap.size w9 _ _ ∧ Below w.heap.size w w9) := ⟨hp.mono HB2.out.size (Nat.le_refl _), bTrans HB2.out hb⟩
        clear hp hb
        go_wp2
        go_ret2
        exact ⟨_, by rw [EC.out]; rfl, by rw [ES.out]; exact P9.out.1, P9.out.2⟩
      · have n1 : ((s.length : Int) == 0) = false := by
          have := List.length_pos_iff.2 e1
          simp; omega
        by_cases e2 : t = []
        · subst e2
          have EC : Hid (fitC s d [] e = 0) := by show _ = _; rw [key.out, if_pos (.inr rfl)]
          have ES : Hid (fitS s d [] e = s) := by show _ = _; rw [fs.out, if_pos EC.out, if_neg e1]
          go_wp2_with fail
          refine (copied_new (H1.out.keep HB2.out) HS.out).mono ?_
          rintro r w9 ⟨a9, c9, rfl, hp, hb⟩
          have P9 : Hid (Piece w.heap.size w9.heap.size w9 _ _ ∧ Below w.heap.size w w9) := ⟨hp.mono HB2.out.size (Nat.le_refl _), bTrans HB2.out hb⟩
          clear hp hb
          go_wp2
          go_ret2
          exact ⟨_, by rw [EC.out]; rfl, by rw [ES.out]; exact P9.out.1, P9.out.2⟩
        · have n2 : ((t.length : Int) == 0) = false := by
            have := List.length_pos_iff.2 e2
            simp; omega
          have key2 : Hid (fitC s d t e = if s.length ≠ t.length then 4 else if s ≠ t then 3 else 0) := by show _ = _; rw [key.out, if_neg (by simp [e1, e2])]
          have E1 : Hid (s ≠ []) := e1
          clear e1 e2
          by_cases e3 : s.length = t.length
          · have n3 : ((s.length : Int) != (t.length : Int)) = false := by simp [e3]
            have E3 : Hid (s.length = t.length) := e3
            clear e3
            by_cases e4 : s = t
            · have EC : Hid (fitC s d t e = 0) := by show _ = _; rw [key2.out, if_neg (by simpa using E3.out), if_neg (by simpa using e4)]
              have ES : Hid (fitS s d t e = s) := by show _ = _; rw [fs.out, if_pos EC.out, if_neg E1.out]
              have DQ : Hid ((decide (0 ≤ sizeV s) && decide (s = t)) = true) := by show _ = _; rw [SH.out]; simpa using e4
              clear e4
              go_wp2_with fail
              refine (same_impl c c' (I1.out.keep HB2.out) (I2.out.keep HB2.out)).mono ?_
              rintro r w3 ⟨rfl, hb⟩
              have HB3 : Hid (Below w.heap.size w w3) := bTrans HB2.out hb
              have z0 := (X2.out.keep hb).c0
              rw [DQ.out]
              clear hb x0 y0
              go_wp2_with fail
              refine (copied_new (H1.out.keep HB3.out) HS.out).mono ?_
              rintro r w9 ⟨a9, c9, rfl, hp, hb⟩
              have P9 : Hid (Piece w.heap.size w9.heap.size w9 _ _ ∧ Below w.heap.size w w9) := ⟨hp.mono HB3.out.size (Nat.le_refl _), bTrans HB3.out hb⟩
              clear hp hb
              go_wp2
              go_ret2
              exact ⟨_, by rw [EC.out]; rfl, by rw [ES.out]; exact P9.out.1, P9.out.2⟩
            · have EC : Hid (fitC s d t e = 3) := by show _ = _; rw [key2.out, if_neg (by simpa using E3.out), if_pos e4]
              have ES : Hid (fitS s d t e = []) := by show _ = _; rw [fs.out, if_neg (by rw [EC.out]; decide)]
              have DQ : Hid ((decide (0 ≤ sizeV s) && decide (s = t)) = false) := by show _ = _; rw [SH.out]; simpa using e4
              clear e4
              go_wp2_with fail
              refine (same_impl c c' (I1.out.keep HB2.out) (I2.out.keep HB2.out)).mono ?_
              rintro r w3 ⟨rfl, hb⟩
              have HB3 : Hid (Below w.heap.size w w3) := bTrans HB2.out hb
              rw [DQ.out]
              clear hb
              go_wp2
              go_ret2
              exact ⟨_, by rw [EC.out]; rfl, by rw [ES.out]; exact Piece.nil _ _ _, HB3.out⟩
          · have n3 : ((s.length : Int) != (t.length : Int)) = true := by simp; omega
            have EC : Hid (fitC s d t e = 4) := by show _ = _; rw [key2.out, if_pos e3]
            have ES : Hid (fitS s d t e = []) := by show _ = _; rw [fs.out, if_neg (by rw [EC.out]; decide)]
            clear e3
            go_wp2
            go_ret2
            exact ⟨_, by rw [EC.out]; rfl, by rw [ES.out]; exact Piece.nil _ _ _, HB2.out⟩
    · have EC : Hid (fitC s d t e = 1) := fitC_no (by rintro ⟨_, h⟩; exact ho' h)
      have ES : Hid (fitS s d t e = []) := fitS_bad (by rw [EC.out]; decide)
      have HO' : Hid (arrOk t e = false) := by show _ = _; simpa using ho'
      clear ho ho'
      go_enter Try.func43, Try.ntmps43
      go_wp2_with fail
      refine (arrOk_impl (H.out.keep (bAlloc (bAlloc (Below.refl _ _) _) _)) HD.out).mono ?_
      rintro r w1 ⟨rfl, hb⟩
      have HB1 : Hid (Below w.heap.size w w1) := bTrans (bAlloc (bAlloc (Below.refl _ _) _) _) hb
      have Y1 : Hid (Box w1 (w.heap.size + 1) (.slice a' t.length c') (.slice b' e.length f') 26) := (box_new2 w _ _ _ _).keep hb
      have y0 := Y1.out.c0
      have y1 := Y1.out.c1
      clear hb
      rw [HO.out]
      go_wp2_with fail
      refine (arrOk_impl (K.out.keep HB1.out) HE.out).mono ?_
      rintro r w2 ⟨rfl, hb⟩
      have HB2 : Hid (Below w.heap.size w w2) := bTrans HB1.out hb
      clear hb
      rw [HO'.out]
      go_wp2
      go_ret2
      exact ⟨_, by rw [EC.out]; rfl, by rw [ES.out]; exact Piece.nil _ _ _, HB2.out⟩
  · have EC : Hid (fitC s d t e = 1) := fitC_no (by rintro ⟨h, _⟩; exact ho h)
    have ES : Hid (fitS s d t e = []) := fitS_bad (by rw [EC.out]; decide)
    have HO : Hid (arrOk s d = false) := by show _ = _; simpa using ho
    clear ho
    go_enter Try.func43, Try.ntmps43
    go_wp2_with fail
    refine (arrOk_impl (H.out.keep (bAlloc (bAlloc (Below.refl _ _) _) _)) HD.out).mono ?_
    rintro r w1 ⟨rfl, hb⟩
    have HB1 : Hid (Below w.heap.size w w1) := bTrans (bAlloc (bAlloc (Below.refl _ _) _) _) hb
    clear hb
    rw [HO.out]
    go_wp2
    go_ret2
    exact ⟨_, by rw [EC.out]; rfl, by rw [ES.out]; exact Piece.nil _ _ _, HB1.out⟩
end Go.Proofs.Ytcpgdhffemecbaa
