/-
  The program's contract of Rows.
-/
import Derived.Test.YtdafoccncnfcbabImplRows2
namespace Go.Proofs.Ytdafoccncnfcbab
open Go.RowKit
set_option linter.unusedVariables false
set_option linter.unusedSimpArgs false
theorem finRange_val (n : Nat) : (List.finRange n).map (fun k => k.1) = List.range n := by
  apply List.ext_getElem
  · simp
  · intro i h1 h2
    simp
theorem finRange_flat (n : Nat) (f : Nat → List (List Int)) : (List.finRange n).flatMap (fun k => f k.1) = (List.range n).flatMap f := by
  rw [← finRange_val, List.flatMap_map]
theorem slice_tail3 (W : World) (b o n c : Nat) (hc : n + 1 ≤ c) : (Instr.slice 32 (.slice (some ⟨b, o, none⟩) (n + 1) c) (some (.int .i64 1)) (some (.int .i64 ((n : Int) + 1))) (some (.int .i64 ((n : Int) + 1)))).run Try.prog W = .ok (.slice (if n = 0 then some ⟨b, o, none⟩ else some ⟨b, o + 1, none⟩) n n) W := by
  have hs : (sizeOf 3).run Try.prog W = .ok 1 W := by kernel_rfl
  have he : Try.prog.elem 32 = 3 := by kernel_rfl
  rw [run_slice_lhm (P := Try.prog) (w := W) 32 (some ⟨b, o, none⟩) (n + 1) c (by rw [he]; exact Try.underlying32) .i64 .i64 .i64 1 ((n : Int) + 1) ((n : Int) + 1) (by decide) (by omega) (by omega) (by omega), he, hs]
  have e1 : ((n : Int) + 1).toNat = n + 1 := by omega
  by_cases h0 : n = 0
  · subst h0; simp [Result.andThen, sliced, Addr.add]
  · simp [Result.andThen, sliced, Addr.add, e1, h0]
theorem slice_cut3 (W : World) (b : Option Addr) (n e M R N : Nat) (h : M + N = R) (hR : R ≤ e) : (Instr.slice 32 (.slice b n e) (some (.int .i64 (M : Int))) (some (.int .i64 (R : Int))) (some (.int .i64 (R : Int)))).run Try.prog W = .ok (.slice (if N = 0 then b else b.map (·.add M)) N N) W := by
  have hs : (sizeOf 3).run Try.prog W = .ok 1 W := by kernel_rfl
  have he : Try.prog.elem 32 = 3 := by kernel_rfl
  rw [run_slice_lhm (P := Try.prog) (w := W) 32 b n e (by rw [he]; exact Try.underlying32) .i64 .i64 .i64 (M : Int) (R : Int) (R : Int) (by omega) (by omega) (by omega) (by omega), he, hs]
  have e2 : R - M = N := by omega
  by_cases h0 : N = 0
  · have e3 : R = M := by omega
    simp [Result.andThen, sliced, h0, e3]
  · have e3 : ¬ R = M := by omega
    simp [Result.andThen, sliced, h0, e3, e2]
theorem rows_good {n0 : Int} {t d : List Int} {w : World} {v : Value} (h : ArrI w v (n0 :: t) d) (ho : arrOk (n0 :: t) d = true) :
    Calls Try.prog 28 #[v] w fun e w' => ∃ v', e = .returned v' ∧ Arrs w.heap.size w'.heap.size w' v' (rowsF (n0 :: t) d) ∧ Below w.heap.size w w' := by
  have H := h
  obtain ⟨a, c, b, e, rfl, h1, h2, g1, g2⟩ := h
  obtain ⟨b1, o1, rfl, hb1, c0⟩ := h1.at (k := 0) (by simp)
  have hh := head_bd ho
  simp only [List.getD_cons_zero] at hh c0
  rw [Nat.add_zero] at c0
  obtain ⟨cnt, rfl⟩ : ∃ cnt : Nat, n0 = (cnt : Int) := ⟨n0.toNat, by omega⟩
  have k1 := (sizeV_ok (arrOk_shape ho)).1
  simp at k1
  have hdl := arrOk_len ho
  obtain ⟨N, hN⟩ : ∃ N : Nat, (0 < cnt → sizeV t = (N : Int)) ∧ (¬ 0 < cnt → N = 0) := by
    by_cases hp : 0 < cnt
    · exact ⟨(sizeV t).toNat, fun _ => by have := tail_size ho (by omega); omega, fun h => absurd hp h⟩
    · exact ⟨0, fun h => absurd h hp, fun _ => rfl⟩
  have hmul : 0 < cnt → cnt * N = d.length := fun hp => by
    have q := (tail_size ho (by omega)).2.1
    rw [hN.1 hp] at q
    have : ((cnt * N : Nat) : Int) = (d.length : Int) := by simpa using q
    omega
  have hN3 : N ≤ 300 := by
    by_cases hp : 0 < cnt
    · have := (tail_size ho (by omega)).2.2; have := hN.1 hp; omega
    · have := hN.2 hp; omega
  have hle : ∀ k, k < cnt → k * N + N ≤ d.length := fun k hk => by
    have q : (k + 1) * N ≤ cnt * N := Nat.mul_le_mul_right N (by omega)
    rw [hmul (by omega), Nat.add_mul, Nat.one_mul] at q
    exact q
  have ht : Ints w (some ⟨b1, o1 + 1, none⟩) t := by
    rcases h1 with h1 | ⟨b', off', e', hb', hc'⟩
    · cases h1
    · cases e'
      refine .inr ⟨b1, o1 + 1, rfl, hb', fun k hk => ?_⟩
      have q := hc' (k + 1) (by simp; omega)
      rw [show o1 + (k + 1) = o1 + 1 + k by omega] at q
      simpa using q
  have hlen : ∀ k, k < cnt → ((d.drop (k * N)).take N).length = N := fun k hk => by have := hle k hk; simp; omega
  have hF : (List.finRange cnt).flatMap (fun k => [t, (d.drop (k.1 * N)).take N]) = rowsF ((cnt : Int) :: t) d := by
    rw [finRange_flat cnt (fun i => [t, (d.drop (i * N)).take N])]
    unfold rowsF
    rw [if_pos ⟨ho, by simp⟩]
    by_cases hp : 0 < cnt
    · simp [hN.1 hp]
    · obtain rfl : cnt = 0 := by omega
      rfl
  rw [← hF]
  refine rows_walk 0 cnt N t.length b1 o1 c e t.length t d (if t.length = 0 then some ⟨b1, o1, none⟩ else some ⟨b1, o1 + 1, none⟩) b (fun k => if N = 0 then b else b.map (·.add (k * N))) (fun _ => N) (fun k => (d.drop (k * N)).take N) w (by omega) hN3 (by omega) rfl ?_ ho hdl ?_ ?_ H hb1 c0 ?_ ?_
  · intro hp
    rw [← hmul hp]
    rw [Int.natCast_mul, Int.mul_ediv_cancel_left _ (by omega)]
  · exact fun W => slice_tail3 W b1 o1 t.length c (by simpa using g1)
  · intro k M R W hk hM hR
    rw [← hM]
    exact slice_cut3 W b d.length e (k * N) R N (by rw [← hR, Nat.add_mul, Nat.one_mul]) (by have := hle k hk; rw [← hR, Nat.add_mul, Nat.one_mul]; omega)
  · intro k hk
    refine ⟨_, _, _, _, by rw [hlen k hk], ?_, ?_, Nat.le_refl _, by rw [hlen k hk]; exact Nat.le_refl _⟩
    · by_cases h0 : t.length = 0
      · exact .inl (List.eq_nil_of_length_eq_zero h0)
      · rw [if_neg h0]; exact ht
    · by_cases h0 : N = 0
      · subst h0; exact .inl (by simp)
      · have hd0 : 0 < d.length := by have := hle k hk; omega
        obtain ⟨b2, o2, rfl, hb2, _⟩ := h2.at hd0
        rw [if_neg h0]
        have e : (⟨b2, o2, none⟩ : Addr).add (k * N) = ⟨b2, o2 + k * N, none⟩ := by unfold Addr.add; split <;> simp_all
        simp only [Option.map_some, e]
        exact ints_cut h2 (hle k hk)
  · intro k hk
    rw [hlen k hk]; omega
set_option maxRecDepth 20000 in
set_option maxHeartbeats 1000000 in
/-- Rows. -/
theorem rows_impl {s d : List Int} {w : World} {v : Value} (h : ArrI w v s d) (hs : s.length ≤ 1048576) (hd : d.length ≤ 1048576) :
    Calls Try.prog 28 #[v] w fun e w' => ∃ v, e = .returned v ∧ Arrs w.heap.size w'.heap.size w' v (rowsF s d) ∧ Below w.heap.size w w' := by
  by_cases hg : arrOk s d = true ∧ s ≠ []
  · obtain ⟨ho, hne⟩ := hg
    cases s with
    | nil => exact absurd rfl hne
    | cons n0 t => exact rows_good h ho
  · have HF : Hid (rowsF s d = []) := by show _ = _; unfold rowsF; rw [if_neg hg]
    have H : Hid (ArrI w v s d) := h
    obtain ⟨a, c, b, e, rfl, _, _, _, _⟩ := h
    have HD : Hid (d.length ≤ 1048576) := hd
    have hq : arrOk s d = false ∨ (arrOk s d = true ∧ s = []) := by
      cases ho : arrOk s d
      · exact .inl rfl
      · exact .inr ⟨rfl, Classical.byContradiction fun e => hg ⟨ho, e⟩⟩
    clear hd hs hg
    rcases hq with hq | ⟨hq, rfl⟩
    all_goals
      have HO : Hid (arrOk _ d = _) := hq
      clear hq
      go_enter Try.func28, Try.ntmps28
      go_wp2_with fail
      refine (arrOk_impl (H.out.keep (bAlloc (Below.refl _ _) _)) HD.out).mono ?_
      rintro r w1 ⟨rfl, hb⟩
      have HB : Hid (Below w.heap.size w w1) := bTrans (bAlloc (Below.refl _ _) _) hb
      have X : Hid (Box w1 w.heap.size _ (.slice b d.length e) 43) := (box_new w _ _ _).keep hb
      have p0 := X.out.c0
      have p1 := X.out.c1
      clear hb
      rw [HO.out]
      go_wp2
      go_ret
      exact ⟨_, rfl, by rw [HF.out]; exact arrs_none _ _ _ _ _, HB.out⟩
end Go.Proofs.Ytdafoccncnfcbab
