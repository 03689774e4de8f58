/-
  Walks: the program's numOf, countOf, numsOf.
-/
import Derived.Test.YtonkiipdobpfgaaReadM
import Derived.Test.YtonkiipdobpfgaaBytP
import Derived.Test.YtonkiipdobpfgaaFrame
import Derived.Deep.QuietTactic
import Derived.BigQuiet
namespace Go.Proofs.Ytonkiipdobpfgaa
open Go.RowKit
set_option linter.unusedVariables false
set_option linter.unusedSimpArgs false
theorem wrap_wrp (x : Int) : IntKind.i64.wrap x = wrp x := by rw [IntKind.wrap_i64]; unfold wrp; omega
theorem wrap64_wrp (x : Int) : wrap64 x = wrp x := by unfold wrap64 wrp; omega
theorem wrp_bd (x : Int) : -9223372036854775808 ≤ wrp x ∧ wrp x ≤ 9223372036854775807 := by unfold wrp; omega
theorem Bys.drop {w : World} {g off : Nat} {l : List Int} (h : Bys w (some ⟨g, off, none⟩) l) (k : Nat) : Bys w (some ⟨g, off + k, none⟩) (l.drop k) := by
  by_cases hk : l.length ≤ k
  · exact .inl (List.drop_eq_nil_of_le hk)
  · rcases h with rfl | ⟨b, o, e, hB, hc⟩
    · simp at hk
    · cases e
      refine .inr ⟨g, off + k, rfl, hB, fun j hj => ?_⟩
      rw [List.length_drop] at hj
      rw [Nat.add_assoc, hc (k + j) (by omega)]
      simp [List.getD_eq_getElem?_getD]
theorem Bys.take {w : World} {a : Option Addr} {l : List Int} (h : Bys w a l) (k : Nat) : Bys w a (l.take k) := by
  rcases h with rfl | ⟨b, o, e, hB, hc⟩
  · exact .inl (by simp)
  · refine .inr ⟨b, o, e, hB, fun j hj => ?_⟩
    rw [List.length_take] at hj
    rw [hc j (by omega)]
    simp [List.getD_eq_getElem?_getD, List.getElem?_take, show j < k by omega]
set_option maxRecDepth 20000 in
set_option maxHeartbeats 4000000 in
theorem numOf_impl {l : List Int} {g off n c : Nat} {w : World} (h : Bys w (some ⟨g, off, none⟩) l) (hb : isB l) (hn : l.length = n) (h8 : 8 ≤ n) (hm : n ≤ 1048576) :
    Calls Try.prog 50 #[.slice (some ⟨g, off, none⟩) n c] w fun e w' => e = .returned (.int .i64 (numW l)) ∧ w' = w := by
  have H : Hid (Bys w (some ⟨g, off, none⟩) l) := h
  have HB : Hid (isB l) := hb
  have HN : Hid (l.length = n) := hn
  have V8 : Hid (wrp (valB ((l.take 8).drop 8)) = 0) := by show _ = _; rw [valB_nil (by rw [List.length_take]; omega)]; decide
  clear h hb hn
  go_enter Try.func50, Try.ntmps50
  go_wp2
  go_loop [3, 4] (fun x p => ∃ j : Nat, j ≤ 8 ∧ p = .int .i64 ((j : Int) - 1) ∧ x = .int .i64 (wrp (valB ((l.take 8).drop j)))) (fun _ p => (intOf p + 1).toNat)
  case atStart => exact ⟨8, by omega, rfl, by rw [V8.out]⟩
  case round =>
    obtain ⟨j, hj, rfl, rfl⟩ := hrel
    by_cases hlt : 0 < j
    · obtain ⟨j, rfl⟩ : ∃ i, j = i + 1 := ⟨j - 1, by omega⟩
      rw [show (((j + 1 : Nat) : Int) - 1) = (j : Int) by omega]
      have L : j < l.length := by have := HN.out; omega
      obtain ⟨_, _, e9, _, cx⟩ := H.out.at L
      cases e9
      have gx := isB_getD HB.out j
      have LJ : (j : Int) < (n : Int) := by omega
      have ES : Hid (wrp (wrp (wrp (valB ((l.take 8).drop (j + 1))) * 256) + l.getD j 0) = wrp (valB ((l.take 8).drop j))) := by
        show _ = _
        rw [valB_drop (l := l.take 8) (j := j) (by rw [List.length_take]; omega)]
        have e : (l.take 8).getD j 0 = l.getD j 0 := by simp [List.getD_eq_getElem?_getD, List.getElem?_take, show j < 8 by omega]
        rw [e]
        generalize valB ((l.take 8).drop (j + 1)) = V
        unfold wrp
        omega
      clear L
      generalize wrp (valB ((l.take 8).drop (j + 1))) = X at *
      generalize hxj : l.getD j 0 = xj at *
      go_wp2
      go_round
      case rel => exact ⟨j, by omega, rfl, by rw [wrap64_wrp, wrap64_wrp, ES.out]⟩
      case measure => simp [intOf]
    · obtain rfl : j = 0 := by omega
      have E9 : Hid (wrp (wrp (valB ((l.take 8).drop 0)) - 1000000000000) = numW l) := by show _ = _; rw [List.drop_zero]; rfl
      generalize wrp (valB ((l.take 8).drop 0)) = X at *
      go_wp2
      go_ret
      exact ⟨ret_numA (by rw [wrap64_wrp, E9.out]), rfl⟩
set_option maxRecDepth 20000 in
set_option maxHeartbeats 4000000 in
theorem countOf_impl {l : List Int} {g off n c : Nat} {w : World} (h : Bys w (some ⟨g, off, none⟩) l) (hb : isB l) (hn : l.length = n) (h2 : 2 ≤ n) (hm : n ≤ 1048576) :
    Calls Try.prog 46 #[.slice (some ⟨g, off, none⟩) n c] w fun e w' => e = .returned (.int .i64 (l.getD 0 0 + l.getD 1 0 * 256)) ∧ ∃ k, w' = w.drewN k := by
  obtain ⟨_, _, e9, _, c0⟩ := h.at (k := 0) (by omega)
  cases e9
  obtain ⟨_, _, e9, _, c1⟩ := h.at (k := 1) (by omega)
  cases e9
  have g0 := isB_getD hb 0
  have g1 := isB_getD hb 1
  rw [Nat.add_zero] at c0
  generalize l.getD 0 0 = x0 at *
  generalize l.getD 1 0 = x1 at *
  have d0 : decide ((0 : Int) < (n : Int)) = true := decide_eq_true (by omega)
  have d1 : decide ((1 : Int) < (n : Int)) = true := decide_eq_true (by omega)
  have i0 : (0 : Int) < (n : Int) := by omega
  have i1 : (1 : Int) < (n : Int) := by omega
  have n0 : 0 < n := by omega
  have n1 : 1 < n := by omega
  clear h hb hn
  go_enter Try.func46, Try.ntmps46
  go_wp2_with fail
  go_quiet (fail)
  go_wp2
  go_ret
  exact ⟨rfl, _, rfl⟩
/-- The first k of q numbers are read into block o. -/
def RdN (w0 : World) (o q k : Nat) (W : World) (l : List Int) : Prop :=
  ∃ A : Array Value, W.heap[o]? = some (.cells A 3 (0, 0)) ∧ A.size = q ∧ (∀ i, i < k → A[i]? = some (.int .i64 (numW (l.drop (8 * i))))) ∧ Below o w0 W
theorem RdN.put {w0 W : World} {o q k : Nat} {l : List Int} (h : RdN w0 o q k W l) (hk : k < q) : RdN w0 o q (k + 1) (W.setCell ⟨o, k, none⟩ (.int .i64 (numW (l.drop (8 * k))))) l := by
  obtain ⟨A, h1, h2, h3, h4⟩ := h
  refine ⟨_, heap_setCell_same W o k _ _ _ h1, by simpa using h2, fun i hi => ?_, below_setCell h4 (Nat.le_refl _) _ _⟩
  rw [Array.getElem?_setIfInBounds]
  by_cases e : i = k
  · subst e; rw [if_pos rfl, if_pos (by omega)]
  · rw [if_neg (by omega)]; exact h3 i (by omega)
theorem RdN.cell {w0 W : World} {o q k : Nat} {l : List Int} (h : RdN w0 o q k W l) (hk : k < q) : (∃ u, W.cell? ⟨o, k, none⟩ = some u) ∧ W.frozen? ⟨o, k, none⟩ = false := by
  obtain ⟨A, h1, h2, h3, h4⟩ := h
  exact ⟨⟨A[k]'(by omega), cell_at h1 (Array.getElem?_eq_getElem (by omega))⟩, free_at h1 _⟩
theorem RdN.piece {w0 W : World} {o q : Nat} {l : List Int} (h : RdN w0 o q q W l) : Piece o W.heap.size W (.slice (some ⟨o, 0, none⟩) q q) (numsW l q) := by
  obtain ⟨A, h1, h2, h3, h4⟩ := h
  refine ⟨_, q, by rw [numsW_len], by rw [numsW_len]; exact Nat.le_refl _, .inr ⟨o, 0, A, _, rfl, Nat.le_refl _, lt_of_heapA h1, h1, fun k hk => ?_⟩⟩
  rw [numsW_len] at hk
  rw [Nat.zero_add, h3 k hk]
  simp [numsW, hk]
set_option maxRecDepth 20000 in
set_option maxHeartbeats 4000000 in
theorem numsOf_impl {l : List Int} {g off q c : Nat} {w : World} (h : Bys w (some ⟨g, off, none⟩) l) (hb : isB l) (hn : l.length = 8 * q) (hc : 8 * q ≤ c) (hm : 8 * q ≤ 1048576) (hcm : c ≤ 9223372036854775807) :
    Calls Try.prog 35 #[.slice (some ⟨g, off, none⟩) (8 * q) c] w fun e w' => e = .returned (.slice (some ⟨w.heap.size, 0, none⟩) q q) ∧ Piece w.heap.size w'.heap.size w' (.slice (some ⟨w.heap.size, 0, none⟩) q q) (numsW l q) ∧ Below w.heap.size w w' := by
  have H : Hid (Bys w (some ⟨g, off, none⟩) l) := h
  have HB : Hid (isB l) := hb
  have HN : Hid (l.length = 8 * q) := hn
  have hmk : (Instr.makeSlice 22 (.int .i64 (q : Int)) (.int .i64 (q : Int))).run Try.prog w = .ok (.slice (some ⟨w.heap.size, 0, none⟩) q q) (w.alloc (.cells (vals (List.replicate q 0)) 3)) := make_ints q (by omega) w
  have R0 : Hid (RdN w w.heap.size q 0 (w.alloc (.cells (vals (List.replicate q 0)) 3)) l) := ⟨_, heap_alloc_new w _, by simp [vals], fun i hi => absurd hi (by omega), bAlloc (Below.refl _ _) _⟩
  have eq : ((8 * q : Nat) : Int) / 8 = (q : Int) := by omega
  have et : ((8 * q : Nat) : Int).tdiv 8 = (q : Int) := by rw [Int.tdiv_eq_ediv_of_nonneg (by omega)]; omega
  obtain ⟨M, hM⟩ : ∃ M, M = 8 * q := ⟨_, rfl⟩
  have HM : Hid (M = 8 * q) := hM
  rw [← hM] at eq et ⊢
  have hM1 : M ≤ 1048576 := by omega
  have hM2 : M ≤ c := by omega
  clear h hb hn hc hm hM
  go_enter Try.func35, Try.ntmps35
  go_wp2
  clear hmk
  go_loopw [11] (fun i w' => ∃ k : Nat, k ≤ q ∧ i = .int .i64 (k : Int) ∧ RdN w w.heap.size q k w' l) (fun i _ => q - (intOf i).toNat)
  case atStart => exact ⟨0, by omega, rfl, R0.out⟩
  case round =>
    obtain ⟨k, hk, rfl, hR⟩ := hrel
    have RK : Hid (RdN w w.heap.size q k wr l) := hR
    clear hR R0 eq et
    by_cases hlt : (k : Int) < (q : Int)
    · have L : k < q := by omega
      have e8 := HM.out
      have BW : Below w.heap.size w wr := by obtain ⟨_, _, _, _, q⟩ := RK.out; exact q
      have CN : Hid (∀ (c' : Nat) (W : World), W = wr → Calls Try.prog 50 #[.slice (some ⟨g, off + k * 8, none⟩) (8 * q - k * 8) c'] W fun e w' => e = .returned (.int .i64 (numW (l.drop (8 * k)))) ∧ w' = wr) := fun c' W hW => by
        subst hW
        have := (H.out.keep BW).drop (8 * k)
        rw [Nat.mul_comm 8 k] at this
        rw [Nat.mul_comm 8 k]
        exact numOf_impl this (isB_drop HB.out _) (by rw [List.length_drop, HN.out]) (by omega) (by omega)
      have PUT : Hid (RdN w w.heap.size q (k + 1) (wr.setCell ⟨w.heap.size, k, none⟩ (.int .i64 (numW (l.drop (8 * k))))) l) := RK.out.put L
      obtain ⟨⟨u0, c0⟩, f0⟩ := RK.out.cell L
      have k8 : (k : Int) * 8 ≤ (M : Int) := by omega
      have k9 : k * 8 ≤ M := by omega
      have q9 : q ≤ 131072 := by omega
      generalize numW (l.drop (8 * k)) = y at *
      clear BW
      go_wp2_with fail
      refine (CN.out _ _ rfl).mono ?_
      rintro r w2 ⟨rfl, hw⟩
      subst w2
      clear CN e8 k8 k9
      go_wp2
      go_roundw
      case rel => exact ⟨k + 1, by omega, by go_num, PUT.out⟩
      case measure => simp [intOf]; omega
    · obtain rfl : k = q := by omega
      have BW : Hid (Below w.heap.size w wr) := by obtain ⟨_, _, _, _, q⟩ := RK.out; exact q
      have PP : Hid (Piece w.heap.size wr.heap.size wr (.slice (some ⟨w.heap.size, 0, none⟩) k k) (numsW l k)) := RK.out.piece
      go_wp2
      go_ret
      exact ⟨rfl, PP.out, BW.out⟩
end Go.Proofs.Ytonkiipdobpfgaa
