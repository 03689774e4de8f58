/-
  Walks: the program's (*sheet).text of whole arrays of rank 2 and 3; layouts; Show.
-/
import Derived.Test.YtcaidhmolnnikaaDoorShowK
import Derived.Test.YtcaidhmolnnikaaDoorWideI
import Derived.Laws.ResultCell
namespace Go.Proofs.YtcaidhmolnnikaaDoor
open Go.RowKit
set_option linter.unusedVariables false
set_option linter.unusedSimpArgs false
theorem finRange_val (n : Nat) : (List.finRange n).map (fun k => k.1) = List.range n := by
  apply List.ext_getElem
  · simp
  · intro i h1 h2
    simp
theorem finRange_flat (n : Nat) (f : Nat → List (List Int)) : (List.finRange n).flatMap (fun k => f k.1) = (List.range n).flatMap f := by
  rw [← finRange_val, List.flatMap_map]
theorem slice_tail3 (W : World) (b o n c : Nat) (hc : n + 1 ≤ c) : (Instr.slice 22 (.slice (some ⟨b, o, none⟩) (n + 1) c) (some (.int .i64 1)) (some (.int .i64 ((n : Int) + 1))) (some (.int .i64 ((n : Int) + 1)))).run Tryd.prog W = .ok (.slice (if n = 0 then some ⟨b, o, none⟩ else some ⟨b, o + 1, none⟩) n n) W := by
  have hs : (sizeOf 3).run Tryd.prog W = .ok 1 W := by kernel_rfl
  have he : Tryd.prog.elem 22 = 3 := by kernel_rfl
  rw [run_slice_lhm (P := Tryd.prog) (w := W) 22 (some ⟨b, o, none⟩) (n + 1) c (by rw [he]; exact Tryd.underlying22) .i64 .i64 .i64 1 ((n : Int) + 1) ((n : Int) + 1) (by decide) (by omega) (by omega) (by omega), he, hs]
  have e1 : ((n : Int) + 1).toNat = n + 1 := by omega
  by_cases h0 : n = 0
  · subst h0; simp [Result.andThen, sliced, Addr.add]
  · simp [Result.andThen, sliced, Addr.add, e1, h0]
theorem slice_cut3 (W : World) (b : Option Addr) (n e M R N : Nat) (h : M + N = R) (hR : R ≤ e) : (Instr.slice 22 (.slice b n e) (some (.int .i64 (M : Int))) (some (.int .i64 (R : Int))) (some (.int .i64 (R : Int)))).run Tryd.prog W = .ok (.slice (if N = 0 then b else b.map (·.add M)) N N) W := by
  have hs : (sizeOf 3).run Tryd.prog W = .ok 1 W := by kernel_rfl
  have he : Tryd.prog.elem 22 = 3 := by kernel_rfl
  rw [run_slice_lhm (P := Tryd.prog) (w := W) 22 b n e (by rw [he]; exact Tryd.underlying22) .i64 .i64 .i64 (M : Int) (R : Int) (R : Int) (by omega) (by omega) (by omega) (by omega), he, hs]
  have e2 : R - M = N := by omega
  by_cases h0 : N = 0
  · have e3 : R = M := by omega
    simp [Result.andThen, sliced, h0, e3]
  · have e3 : ¬ R = M := by omega
    simp [Result.andThen, sliced, h0, e3, e2]
theorem cut_facts {n0 : Int} {t d : List Int} {w0 : World} {v : Value} (h : ArrI w0 v (n0 :: t) d) (ho : arrOk (n0 :: t) d = true) :
    ∃ (b1 o1 c e ct cnt N : Nat) (tl b : Option Addr) (ad : Nat → Option Addr) (cd : Nat → Nat), v = .agg #[.slice (some ⟨b1, o1, none⟩) (t.length + 1) c, .slice b d.length e] ∧ rowN (n0 :: t) d = cnt ∧ cnt ≤ 300 ∧ N ≤ 300 ∧
      (0 < cnt → (d.length : Int) / (cnt : Int) = N) ∧
      (∀ W, (Instr.slice 22 (.slice (some ⟨b1, o1, none⟩) (t.length + 1) c) (some (.int .i64 1)) (some (.int .i64 ((t.length : Int) + 1))) (some (.int .i64 ((t.length : Int) + 1)))).run Tryd.prog W = .ok (.slice tl t.length ct) W) ∧
      (∀ (k M R : Nat) W, k < cnt → k * N = M → (k + 1) * N = R → (Instr.slice 22 (.slice b d.length e) (some (.int .i64 (M : Int))) (some (.int .i64 (R : Int))) (some (.int .i64 (R : Int)))).run Tryd.prog W = .ok (.slice (ad k) N (cd k)) W) ∧
      b1 < w0.heap.size ∧ w0.cell? ⟨b1, o1, none⟩ = some (.int .i64 (cnt : Int)) ∧
      ∀ k, k < cnt → ArrI w0 (.agg #[.slice tl t.length ct, .slice (ad k) N (cd k)]) t ((rowsF (n0 :: t) d).getD (2 * k + 1) []) := by
  obtain ⟨a, c, b, e, rfl, h1, h2, g1, g2⟩ := h
  obtain ⟨b1, o1, rfl, hb1, c0⟩ := h1.at (k := 0) (by simp)
  have hh := head_bd ho
  simp only [List.getD_cons_zero] at hh c0
  rw [Nat.add_zero] at c0
  obtain ⟨cnt, rfl⟩ : ∃ cnt : Nat, n0 = (cnt : Int) := ⟨n0.toNat, by omega⟩
  have hdl := arrOk_len ho
  obtain ⟨N, hN⟩ : ∃ N : Nat, (0 < cnt → sizeV t = (N : Int)) ∧ (¬ 0 < cnt → N = 0) := by
    by_cases hp : 0 < cnt
    · exact ⟨(sizeV t).toNat, fun _ => by have := tail_size ho (by omega); omega, fun h => absurd hp h⟩
    · exact ⟨0, fun h => absurd h hp, fun _ => rfl⟩
  have hmul : 0 < cnt → cnt * N = d.length := fun hp => by
    have q := (tail_size ho (by omega)).2.1
    rw [hN.1 hp] at q
    have : ((cnt * N : Nat) : Int) = (d.length : Int) := by simpa using q
    omega
  have hN3 : N ≤ 300 := by
    by_cases hp : 0 < cnt
    · have := (tail_size ho (by omega)).2.2; have := hN.1 hp; omega
    · have := hN.2 hp; omega
  have hle : ∀ k, k < cnt → k * N + N ≤ d.length := fun k hk => by
    have q : (k + 1) * N ≤ cnt * N := Nat.mul_le_mul_right N (by omega)
    rw [hmul (by omega), Nat.add_mul, Nat.one_mul] at q
    exact q
  have ht : Ints w0 (some ⟨b1, o1 + 1, none⟩) t := by
    rcases h1 with h1 | ⟨b', off', e', hb', hc'⟩
    · cases h1
    · cases e'
      refine .inr ⟨b1, o1 + 1, rfl, hb', fun k hk => ?_⟩
      have q := hc' (k + 1) (by simp; omega)
      rw [show o1 + (k + 1) = o1 + 1 + k by omega] at q
      simpa using q
  have hlen : ∀ k, k < cnt → ((d.drop (k * N)).take N).length = N := fun k hk => by have := hle k hk; simp; omega
  have hF : ∀ k, k < cnt → (rowsF ((cnt : Int) :: t) d).getD (2 * k + 1) [] = (d.drop (k * N)).take N := fun k hk => by
    have hR : rowsF ((cnt : Int) :: t) d = (List.range cnt).flatMap (fun i => [t, (d.drop (i * N)).take N]) := by
      unfold rowsF
      rw [if_pos ⟨ho, by simp⟩]
      simp [hN.1 (by omega)]
    rw [hR]
    exact (flat2_at cnt k (fun _ => t) (fun i => (d.drop (i * N)).take N) hk).2
  refine ⟨b1, o1, c, e, t.length, cnt, N, if t.length = 0 then some ⟨b1, o1, none⟩ else some ⟨b1, o1 + 1, none⟩, b, fun k => if N = 0 then b else b.map (·.add (k * N)), fun _ => N, rfl, ?_, by omega, hN3, ?_, ?_, ?_, hb1, c0, ?_⟩
  · unfold rowN
    rw [rowsF_length, if_pos ⟨ho, by simp⟩]
    simp
  · intro hp
    rw [← hmul hp]
    rw [Int.natCast_mul, Int.mul_ediv_cancel_left _ (by omega)]
  · exact fun W => slice_tail3 W b1 o1 t.length c (by simpa using g1)
  · intro k M R W hk hM hR
    rw [← hM]
    exact slice_cut3 W b d.length e (k * N) R N (by rw [← hR, Nat.add_mul, Nat.one_mul]) (by have := hle k hk; rw [← hR, Nat.add_mul, Nat.one_mul]; omega)
  · intro k hk
    rw [hF k hk]
    refine ⟨_, _, _, _, by rw [hlen k hk], ?_, ?_, Nat.le_refl _, by rw [hlen k hk]; exact Nat.le_refl _⟩
    · by_cases h0 : t.length = 0
      · exact .inl (List.eq_nil_of_length_eq_zero h0)
      · rw [if_neg h0]; exact ht
    · by_cases h0 : N = 0
      · subst h0; exact .inl (by simp)
      · have hd0 : 0 < d.length := by have := hle k hk; omega
        obtain ⟨b2, o2, rfl, hb2, _⟩ := h2.at hd0
        show Ints w0 (if N = 0 then some ⟨b2, o2, none⟩ else (some (⟨b2, o2, none⟩ : Addr)).map (·.add (k * N))) _
        rw [if_neg h0]
        have e : (⟨b2, o2, none⟩ : Addr).add (k * N) = ⟨b2, o2 + k * N, none⟩ := by unfold Addr.add; split <;> simp_all
        simp only [Option.map_some, e]
        exact ints_cut h2 (hle k hk)
theorem cat_fin (sep : ByteArray) (f : Nat → ByteArray) (n : Nat) : jnS sep ((List.finRange n).map (fun k => f k.1)) = cat sep f n := by
  rw [cat_jnS, ← finRange_val, List.map_map]
  rfl
/-- text of rank 2. -/
theorem text2_impl {s d : List Int} {v : Value} {w0 w : World} {g m : Nat} {t3 : Value} (h : ArrI w0 v s d) (ho : arrOk s d = true) (hr : s.length = 2) (hm : m ≤ 22) (hb0 : Below w0.heap.size w0 w) (hng : w0.heap.size ≤ g) (hg : Sheet w g m (.slice none 0 0) t3) (ht : TabW w0) :
    Calls Tryd.prog 35 #[.pointer (some ⟨g, 0, none⟩), v] w fun e w' => e = .returned (.string (part2 m s d)) ∧ Below w.heap.size w w' := by
  match s, hr with
  | [n0, n1], _ =>
    obtain ⟨_, _, hrow⟩ := rows_are ho (by simp)
    obtain ⟨b1, o1, c, e, ct, cnt, N, tl, b, ad, cd, rfl, hn, hc, hN, hq, hs1, hs2, hb1, h0, hk⟩ := cut_facts h ho
    have := text2_walk cnt N b1 o1 c e ct g m t3 [n1] d tl b ad cd (fun k => lineV m ((rowsF [n0, n1] d).getD (2 * k + 1) [])) w0 w hc hN hq hs1 hs2 hb0 hng hb1 h0 hg
      (fun k hk2 => by
        have := lineV_le hm (arrOk_num (hrow k (by omega)).2) (arrOk_len (hrow k (by omega)).2)
        omega)
      (fun k hk2 W u hb hs => text1_impl hs ((hk k hk2).keep hb) (by simp) (arrOk_num (hrow k (by omega)).2) (by have := arrOk_len (hrow k (by omega)).2; omega) hm (ht.on hb))
    unfold part2
    rw [hn, ← cat_fin]
    exact this
/-- text of rank 3. -/
theorem text3_impl {s d : List Int} {v : Value} {w0 w : World} {g m : Nat} (h : ArrI w0 v s d) (ho : arrOk s d = true) (hr : s.length = 3) (hm : m ≤ 22) (hb0 : Below w0.heap.size w0 w) (hng : w0.heap.size ≤ g) (hg : Sheet w g m (.slice none 0 0) (.slice none 0 0)) (ht : TabW w0) :
    Calls Tryd.prog 35 #[.pointer (some ⟨g, 0, none⟩), v] w fun e w' => e = .returned (.string (part3 m s d)) ∧ Below w.heap.size w w' := by
  match s, hr with
  | [n0, n1, n2], _ =>
    obtain ⟨_, _, hrow⟩ := rows_are ho (by simp)
    obtain ⟨b1, o1, c, e, ct, cnt, N, tl, b, ad, cd, rfl, hn, hc, hN, hq, hs1, hs2, hb1, h0, hk⟩ := cut_facts h ho
    have := text3_walk cnt N b1 o1 c e ct g m [n1, n2] d tl b ad cd (fun k => part2 m ((rowsF [n0, n1, n2] d).getD (2 * k) []) ((rowsF [n0, n1, n2] d).getD (2 * k + 1) [])) w0 w hc hN hq hs1 hs2 hb0 hng hb1 h0 hg
      (fun k hk2 => by
        have q := hrow k (by omega)
        show (part2 m _ _).size ≤ _
        rw [q.1]
        have := part2_le hm q.2 (by simp)
        omega)
      (fun k hk2 W u hb hs => by
        have q := hrow k (by omega)
        show Calls _ _ _ _ fun e w' => e = .returned (.string (part2 m _ _)) ∧ _
        rw [q.1]
        exact text2_impl (hk k hk2) q.2 rfl hm hb hng hs ht)
    unfold part3
    rw [hn, ← cat_fin]
    exact this
set_option maxRecDepth 20000 in
set_option maxHeartbeats 4000000 in
theorem layouts_impl (w : World) :
    Calls Tryd.prog 34 #[] w fun e w' => e = .returned (.agg #[.func (.func 43) #[] #[], .string ⟨#[]⟩, .func (.func 43) #[] #[], .string ⟨#[]⟩, .func (.func 66) #[] #[], .string ⟨#[10]⟩, .func (.func 66) #[] #[], .string ⟨#[10, 10]⟩]) ∧ Below w.heap.size w w' := by
  go_enter Tryd.func34, Tryd.ntmps34
  go_wp2
  exact bodyPost_ret (v := .agg #[.func (.func 43) #[] #[], .string ⟨#[]⟩, .func (.func 43) #[] #[], .string ⟨#[]⟩, .func (.func 66) #[] #[], .string ⟨#[10]⟩, .func (.func 66) #[] #[], .string ⟨#[10, 10]⟩]) (by simp [results, Tryd.results34, go_sem]) rfl ⟨rfl, bAlloc (Below.refl _ _) _⟩
end Go.Proofs.YtcaidhmolnnikaaDoor
