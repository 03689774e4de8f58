/-
  Walks: the program's sumOf, toldOften and Copy's closure.
-/
import Derived.Test.YtfmheanmkfdjnaqImplMake3
import Derived.Test.YtfmheanmkfdjnaqImplMake5
import Derived.Test.YtfmheanmkfdjnaqGrow
import Derived.Test.YtfmheanmkfdjnaqCopyL
namespace Go.Proofs.Ytfmheanmkfdjnaq
open Go.RowKit
set_option linter.unusedVariables false
set_option linter.unusedSimpArgs false
theorem sumL_bd {l : List Int} (h : ∀ j, j < l.length → 0 ≤ l.getD j 0 ∧ l.getD j 0 ≤ 1000000000000) : ∀ {k : Nat}, k ≤ l.length → 0 ≤ sumL l k ∧ sumL l k ≤ k * 1000000000000 := by
  intro k
  induction k with
  | zero => intro _; exact ⟨Int.le_refl _, by simp [sumL]⟩
  | succ k ih =>
    intro hk
    have h1 := h k (by omega)
    have h2 := ih (by omega)
    show 0 ≤ sumL l k + l.getD k 0 ∧ sumL l k + l.getD k 0 ≤ _
    push_cast
    omega
set_option maxRecDepth 20000 in
set_option maxHeartbeats 2000000 in
/-- sumOf. -/
theorem sumOf_impl {l : List Int} {a : Option Addr} {w : World} {c : Nat} (h : Ints w a l) (hl : l.length ≤ 300) (hb : ∀ j, j < l.length → 0 ≤ l.getD j 0 ∧ l.getD j 0 ≤ 1000000000000) :
    Calls Try.prog 36 #[.slice a l.length c] w fun r w' => r = .returned (.int .i64 (sumL l l.length)) ∧ w' = w := by
  have HI : Hid (Ints w a l) := h
  have HB : Hid (∀ j, j < l.length → 0 ≤ l.getD j 0 ∧ l.getD j 0 ≤ 1000000000000) := hb
  clear h hb
  go_enter Try.func36, Try.ntmps36
  go_wp2
  go_loopw [3, 8] (fun z i w' => ∃ k : Nat, k ≤ l.length ∧ i = .int .i64 (k : Int) ∧ z = .int .i64 (sumL l k) ∧ w' = w) (fun _ i _ => l.length - (intOf i).toNat)
  case atStart => exact ⟨0, by omega, rfl, rfl, rfl⟩
  case round =>
    obtain ⟨k, hk, rfl, rfl, hw⟩ := hrel
    have hw2 := hw.symm
    clear hw
    subst hw2
    by_cases hlt : (k : Int) < (l.length : Int)
    · have L : k < l.length := by omega
      obtain ⟨b1, o1, rfl, _, c1⟩ := HI.out.at L
      have eT : Hid (sumL l (k + 1) = sumL l k + l.getD k 0) := rfl
      have q1 := HB.out k L
      have q2 := sumL_bd HB.out (k := k) (by omega)
      have hw1 : IntKind.i64.wrap (sumL l k + l.getD k 0) = sumL l k + l.getD k 0 := by
        have h1 : (k : Int) * 1000000000000 ≤ 300 * 1000000000000 := Int.mul_le_mul_of_nonneg_right (by omega) (by decide)
        rw [IntKind.wrap_i64]
        omega
      generalize l.getD k 0 = y at *
      clear q1 q2
      go_wp2
      go_roundw
      case rel => exact ⟨k + 1, by omega, by go_num, by rw [eT.out], by first | rfl | trivial⟩
      case measure => simp [intOf]; omega
    · obtain rfl : k = l.length := by omega
      go_wp2
      go_ret
      exact ⟨rfl, rfl⟩
/-- A list of no number, with room. -/
theorem make0_ints (n : Nat) (hn : n ≤ 1073741824) (w : World) :
    ∃ w', (Instr.makeSlice 22 (.int .i64 0) (.int .i64 (n : Int))).run Try.prog w = .ok (.slice (some ⟨w.heap.size, 0, none⟩) 0 n) w' ∧ NewInts w.heap.size w' (.slice (some ⟨w.heap.size, 0, none⟩) 0 n) [] ∧ Below w.heap.size w w' := by
  have hi := info_int
  cases hq : Try.prog.info? 3 with
  | none => rw [hq] at hi; cases hi
  | some i =>
    rw [hq] at hi
    simp at hi
    obtain ⟨z1, z2, z3⟩ := hi
    have := run_make (P := Try.prog) w 22 3 i (.int .i64 0) Try.underlying22 hq z1 .i64 .i64 0 n (by omega) (by omega) (by rw [z3]; omega) (by omega)
    rw [z2, Int.toNat_natCast, Nat.mul_one] at this
    refine ⟨_, this, ⟨rfl, .inr ⟨w.heap.size, n, _, rfl, Nat.le_refl _, heap_alloc_new w _, Nat.zero_le _, by unfold maxLen; omega, ?_, by simp⟩⟩, bAlloc (Below.refl _ _) _⟩
    rw [made_zero]
    simp [vals]
set_option maxRecDepth 20000 in
set_option maxHeartbeats 4000000 in
/-- toldOften. -/
theorem told_impl {l : List Int} {a : Option Addr} {w : World} {c n : Nat} (h : Ints w a l) (hl : l.length ≤ 300) (hb : ∀ j, j < l.length → 0 ≤ l.getD j 0) (hs : sumL l l.length = (n : Int)) (hn : n ≤ 300) :
    Calls Try.prog 39 #[.slice a l.length c, .int .i64 (n : Int)] w fun r w' => ∃ a' c', r = .returned (.slice a' (toldP l l.length).length c') ∧ NewInts w.heap.size w' (.slice a' (toldP l l.length).length c') (toldP l l.length) ∧ Below w.heap.size w w' := by
  obtain ⟨w1, r1, n1, b1⟩ := make0_ints n (by omega) w
  have R1 : (Instr.makeSlice 22 (.int .i64 0) (.int .i64 (n : Int))).run Try.prog w = .ok (.slice (some ⟨w.heap.size, 0, none⟩) 0 n) w1 := r1
  have N1 : Hid (NewInts w.heap.size w1 (.slice (some ⟨w.heap.size, 0, none⟩) 0 n) []) := n1
  have B1 : Hid (Below w.heap.size w w1) := b1
  have HI : Hid (∀ W, Below w.heap.size w W → Ints W a l) := fun W q => h.keep q
  have TL : Hid (∀ k, k ≤ l.length → ((toldP l k).length : Int) ≤ 300) := fun k hk => by
    have e := toldP_len hb hk
    have hm : ∀ {i m : Nat}, i ≤ m → m ≤ l.length → sumL l i ≤ sumL l m := by
      intro i m him hml
      induction m with
      | zero => obtain rfl : i = 0 := by omega
                exact Int.le_refl _
      | succ m ih =>
        by_cases q : i = m + 1
        · subst q; exact Int.le_refl _
        · have := ih (by omega) (by omega)
          have := hb m (by omega)
          show sumL l i ≤ sumL l m + l.getD m 0
          omega
    have := hm hk (Nat.le_refl _)
    omega
  have HB : Hid (∀ j, j < l.length → 0 ≤ l.getD j 0) := hb
  clear r1 n1 b1 h hb hs
  go_enter Try.func39, Try.ntmps39
  go_wp2
  go_loopw [5, 12] (fun v i w' => ∃ (k : Nat), k ≤ l.length ∧ i = .int .i64 (k : Int) ∧ NewInts w.heap.size w' v (toldP l k) ∧ Below w.heap.size w w') (fun _ i _ => l.length - (intOf i).toNat)
  case atStart => exact ⟨0, by omega, rfl, N1.out, B1.out⟩
  case round =>
    obtain ⟨k, hk, rfl, hN, hB⟩ := hrel
    have NK : Hid (NewInts w.heap.size wr _ (toldP l k)) := hN
    have BK : Hid (Below w.heap.size w wr) := hB
    obtain ⟨a5, c5, rfl, _⟩ := hN.ints
    clear hN hB N1 B1 R1
    by_cases hlt : (k : Int) < (l.length : Int)
    · have L : k < l.length := by omega
      obtain ⟨b2, o2, rfl, _, c2⟩ := (HI.out _ BK.out).at L
      have h0 := HB.out k L
      have ET : Hid (toldP l (k + 1) = toldP l k ++ List.replicate (l.getD k 0).toNat (k : Int)) := rfl
      have TK := TL.out (k + 1) (by omega)
      rw [ET.out] at TK
      obtain ⟨m, hm⟩ : ∃ m : Nat, l.getD k 0 = (m : Int) := ⟨(l.getD k 0).toNat, by omega⟩
      rw [hm] at c2 ET TK
      rw [Int.toNat_natCast] at ET TK
      rw [List.length_append, List.length_replicate] at TK
      have TM : Hid (((toldP l k).length : Int) + (m : Int) ≤ 300) := by show _ ≤ _; push_cast at TK; omega
      obtain ⟨P, hP⟩ : ∃ P, P = toldP l k := ⟨_, rfl⟩
      rw [← hP] at NK ET TM ⊢
      have hm3 : m ≤ 300 := by have := TM.out; omega
      clear hm h0 TK hP
      go_wp2
      go_loopw [5, 18] (fun v i w' => ∃ (j : Nat), j ≤ m ∧ i = .int .i64 (j : Int) ∧ NewInts w.heap.size w' v (P ++ List.replicate j (k : Int)) ∧ Below w.heap.size w w') (fun _ i _ => m - (intOf i).toNat)
      case atStart => exact ⟨0, by omega, rfl, by simpa using NK.out, BK.out⟩
      case round =>
        obtain ⟨j, hj, rfl, hN, hB⟩ := hrel
        have NJ : Hid (NewInts w.heap.size wr _ (P ++ List.replicate j (k : Int))) := hN
        have BJ : Hid (Below w.heap.size w wr) := hB
        obtain ⟨a6, c6, rfl, _⟩ := hN.ints
        clear hN hB NK BK
        by_cases hjn : (j : Int) < (m : Int)
        · obtain ⟨a7, c7, w7, r7, n7, b7⟩ := grow1 (k : Int) NJ.out BJ.out.size (by have := TM.out; simp; omega)
          have EF : (P ++ List.replicate j (k : Int)) ++ [(k : Int)] = P ++ List.replicate (j + 1) (k : Int) := by rw [List.replicate_succ', List.append_assoc]
          rw [EF] at n7
          have R7 : Hid (_ = _) := r7
          have N7 : Hid (NewInts w.heap.size w7 (.slice a7 ((P ++ List.replicate j (k : Int)).length + 1) c7) (P ++ List.replicate (j + 1) (k : Int))) := n7
          have B7 : Hid (Below w.heap.size w w7) := BJ.out.trans b7
          clear r7 n7 b7 EF
          generalize (P ++ List.replicate j (k : Int)).length = q at *
          go_wp2_with (at_builtin; refine wpList_append_ty rfl _ _ 22 22 rfl _ _ _ rfl rfl R7.out ?_)
          go_roundw
          case rel => exact ⟨j + 1, by omega, by go_num, N7.out, B7.out⟩
          case measure => simp [intOf]; omega
        · obtain rfl : j = m := by omega
          rw [← ET.out] at NJ
          rw [← ET.out]
          go_wp2
          go_roundw
          case rel => exact ⟨k + 1, by omega, by go_num, NJ.out, BJ.out⟩
          case measure => simp [intOf]; omega
    · obtain rfl : k = l.length := by omega
      go_wp2
      go_ret
      exact ⟨_, _, rfl, NK.out, BK.out⟩
set_option maxHeartbeats 1000000 in
/-- Copy's closure. -/
theorem copy1_impl {P : List Int} {k o c : Nat} {a : Option Addr} {W : World} (h : W.cell? ⟨o, 0, none⟩ = some (.slice a P.length c)) (hi : Ints W a P) (hk : k < P.length) :
    Calls Try.prog 41 #[.int .i64 (k : Int), .pointer (some ⟨o, 0, none⟩)] W fun r W' => r = .returned (.int .i64 (P.getD k 0)) ∧ Below W.heap.size W W' := by
  obtain ⟨b1, o1, rfl, _, c1⟩ := hi.at hk
  have hki : (k : Int) < (P.length : Int) := by omega
  generalize P.getD k 0 = y at *
  clear hi
  go_enter Try.func41, Try.ntmps41
  go_wp2
  go_ret
  exact ⟨rfl, Below.refl _ _⟩
end Go.Proofs.Ytfmheanmkfdjnaq
