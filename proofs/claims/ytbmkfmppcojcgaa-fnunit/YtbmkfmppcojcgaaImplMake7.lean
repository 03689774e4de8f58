/-
  Walks: the program's Iota.
-/
import Derived.Test.YtbmkfmppcojcgaaImplMake1
namespace Go.Proofs.Ytbmkfmppcojcgaa
open Go.RowKit
set_option linter.unusedVariables false
set_option linter.unusedSimpArgs false
theorem piece_setN5 {B C g c k n : Nat} {w : World} {l : List Int} (h : Piece B C w (.slice (some ⟨g, 0, none⟩) n c) l) (hl : l.length = n) (hk : k < n) (x : Int) : Piece B C (w.setCell ⟨g, k, none⟩ (.int .i64 x)) (.slice (some ⟨g, 0, none⟩) n c) (l.set k x) := by
  subst hl
  have := h.set hk x
  simpa using this
theorem iotaD_len {s d : List Int} (h : iotaC s d = 0) : ((List.range (d.getD 0 0).toNat).map (fun (i : Nat) => (i : Int))).length ≤ 1048576 := by
  have : d.getD 0 0 ≤ 300 := by
    unfold iotaC at h
    by_cases ho : arrOk s d = true
    · by_cases hl : d.length ≠ 1
      · rw [if_pos ho, if_pos hl] at h; cases h
      · by_cases h0 : d.getD 0 0 < 0
        · omega
        · by_cases h3 : 300 < d.getD 0 0
          · rw [if_pos ho, if_neg hl, if_neg h0, if_pos h3] at h; cases h
          · omega
    · rw [if_neg ho] at h; cases h
  rw [List.length_map, List.length_range]
  omega
set_option maxRecDepth 20000 in
set_option maxHeartbeats 4000000 in
/-- Iota. -/
theorem iota_impl {s d : List Int} {w : World} {v : Value} (h : ArrI w v s d) (hd : d.length ≤ 1048576) :
    Calls Try.prog 10 #[v] w fun r w' => ∃ v', r = .returned (.tuple #[v', .int .i64 (iotaR s d).1]) ∧ Arr w.heap.size w'.heap.size w' v' (iotaR s d).2.1 (iotaR s d).2.2 ∧ Below w.heap.size w w' := by
  have HSN : Hid (∀ W, Below w.heap.size w W → Calls Try.prog 31 #[v, .slice none 0 0] W fun r w' => r = .returned (.tuple #[.int .i64 (soleV s d true), .int .i64 (soleC s d true)]) ∧ Below W.heap.size W w') := fun W hb => sole_impl (F := []) (m := 0) (h.keep hb) hd ⟨none, 0, 0, rfl, rfl, .inl rfl⟩ (by decide) (fun j => by simp)
  obtain ⟨a, c, b, e, rfl, ia, ib, ga, gb⟩ := h
  obtain ⟨x, hx⟩ : ∃ x, x = (iotaR s d).1 := ⟨_, rfl⟩
  obtain ⟨S, hS⟩ : ∃ S, S = (iotaR s d).2.1 := ⟨_, rfl⟩
  obtain ⟨D, hD⟩ : ∃ D, D = (iotaR s d).2.2 := ⟨_, rfl⟩
  rw [← hx, ← hS, ← hD]
  have E1 : Hid (soleC s d true ≠ 0 → x = soleC s d true ∧ S = [] ∧ D = []) := fun h => by
    have q : iotaC s d = soleC s d true := by
      unfold soleC at *
      unfold iotaC
      by_cases ho : arrOk s d = true
      · by_cases hl : d.length = 1
        · exact absurd (by simp [ho, hl]) h
        · simp [ho, hl]
      · simp [ho]
    rw [hx, hS, hD]; unfold iotaR; rw [q, mkR_bad h]; exact ⟨rfl, rfl, rfl⟩
  have EQ : soleC s d true = 0 → soleV s d true = d.getD 0 0 ∧ iotaC s d = if d.getD 0 0 < 0 then 2 else if 300 < d.getD 0 0 then 6 else 0 := fun h => by
    refine ⟨by unfold soleV; rw [if_pos h], ?_⟩
    unfold soleC at h
    unfold iotaC
    by_cases ho : arrOk s d = true
    · rw [if_pos ⟨ho, rfl⟩] at h
      rw [if_pos ho]
      by_cases hl : d.length ≠ 1
      · rw [if_pos hl] at h; cases h
      · rw [if_neg hl]
    · rw [if_neg (fun q => ho q.1)] at h; cases h
  have E2 : Hid (soleC s d true = 0 → soleV s d true < 0 → x = 2 ∧ S = [] ∧ D = []) := fun h h1 => by
    obtain ⟨q1, q2⟩ := EQ h
    rw [q1] at h1
    rw [hx, hS, hD]; unfold iotaR; rw [q2, if_pos h1, mkR_bad (by decide)]; exact ⟨rfl, rfl, rfl⟩
  have E3 : Hid (soleC s d true = 0 → ¬ soleV s d true < 0 → 300 < soleV s d true → x = 6 ∧ S = [] ∧ D = []) := fun h h1 h2 => by
    obtain ⟨q1, q2⟩ := EQ h
    rw [q1] at h1 h2
    rw [hx, hS, hD]; unfold iotaR; rw [q2, if_neg h1, if_pos h2, mkR_bad (by decide)]; exact ⟨rfl, rfl, rfl⟩
  have E4 : Hid (soleC s d true = 0 → ∀ n : Nat, soleV s d true = (n : Int) → n ≤ 300 → x = 0 ∧ S = [(n : Int)] ∧ D = (List.range n).map (fun (i : Nat) => (i : Int))) := fun h n h1 h2 => by
    obtain ⟨q1, q2⟩ := EQ h
    rw [q1] at h1
    rw [hx, hS, hD]; unfold iotaR; rw [q2, if_neg (by omega), if_neg (by omega), mkR_good, h1]; exact ⟨rfl, rfl, rfl⟩
  clear hx hS hD ia ib ga gb hd EQ
  generalize soleV s d true = xv at *
  generalize soleC s d true = y at *
  go_enter Try.func10, Try.ntmps10
  go_wp2_with fail
  refine (HSN.out _ (bAlloc (bAlloc (Below.refl _ _) _) _)).mono ?_
  rintro r w1 ⟨rfl, hb⟩
  have HB1 : Hid (Below w.heap.size w w1) := bTrans (bAlloc (bAlloc (Below.refl _ _) _) _) hb
  have R1 : Hid (Box w1 (w.heap.size + 1) (.slice none 0 0) (.slice none 0 0) 26) := (box_new2 w _ _ _ _).keep hb
  clear hb HSN
  by_cases hy : y = 0
  · subst hy
    by_cases h0 : xv < 0
    · obtain ⟨rfl, rfl, rfl⟩ := E2.out (by trivial) h0
      clear E1 E2 E3 E4
      have y0 := R1.out.c0
      have y1 := R1.out.c1
      have f0 : w1.frozen? ⟨w.heap.size + 1, 0, none⟩ = false := free_at R1.out 0
      have f1 : w1.frozen? ⟨w.heap.size + 1, 1, none⟩ = false := free_at R1.out 1
      have HR : Hid (((w1.setCell ⟨w.heap.size + 1, 0, none⟩ (.slice none 0 0)).setCell ⟨w.heap.size + 1, 1, none⟩ (.slice none 0 0)).heap[w.heap.size + 1]? = some (.cells #[.slice none 0 0, .slice none 0 0] 26 (0, 0))) := arr_stored R1.out
      go_wp2
      refine bodyPost_ret (results_arr_tmp Try.results10 _ _ (w.heap.size + 1) _ _ rfl HR.out) rfl ?_
      exact ⟨_, rfl, arr_zero _ _ _, below_setCell (below_setCell HB1.out (by omega) _ _) (by omega) _ _⟩
    · by_cases h3 : 300 < xv
      · obtain ⟨rfl, rfl, rfl⟩ := E3.out (by trivial) (by omega) h3
        clear E1 E2 E3 E4
        have y0 := R1.out.c0
        have y1 := R1.out.c1
        have f0 : w1.frozen? ⟨w.heap.size + 1, 0, none⟩ = false := free_at R1.out 0
        have f1 : w1.frozen? ⟨w.heap.size + 1, 1, none⟩ = false := free_at R1.out 1
        have HR : Hid (((w1.setCell ⟨w.heap.size + 1, 0, none⟩ (.slice none 0 0)).setCell ⟨w.heap.size + 1, 1, none⟩ (.slice none 0 0)).heap[w.heap.size + 1]? = some (.cells #[.slice none 0 0, .slice none 0 0] 26 (0, 0))) := arr_stored R1.out
        go_wp2
        refine bodyPost_ret (results_arr_tmp Try.results10 _ _ (w.heap.size + 1) _ _ rfl HR.out) rfl ?_
        exact ⟨_, rfl, arr_zero _ _ _, below_setCell (below_setCell HB1.out (by omega) _ _) (by omega) _ _⟩
      · obtain ⟨n, rfl⟩ : ∃ n : Nat, xv = (n : Int) := ⟨xv.toNat, by omega⟩
        have hn : n ≤ 300 := by omega
        obtain ⟨rfl, eS, eD⟩ := E4.out (by trivial) n (by trivial) hn
        have ES : Hid (S = [(n : Int)] ∧ D = (List.range n).map (fun (i : Nat) => (i : Int))) := ⟨eS, eD⟩
        clear E1 E2 E3 E4 eS eD
        have hmk : ∀ w, (Instr.makeSlice 24 (.int .i64 (n : Int)) (.int .i64 (n : Int))).run Try.prog w = .ok (.slice (some ⟨w.heap.size, 0, none⟩) n n) (w.alloc (.cells (vals (List.replicate n 0)) 3)) := fun w => make_ints n (by omega) w
        go_wp2
        generalize hW : w1.alloc (.cells (vals (List.replicate n 0)) 3) = W
        have P0 : Hid (Piece w1.heap.size (w1.heap.size + 1) W (.slice (some ⟨w1.heap.size, 0, none⟩) n n) (List.replicate n 0)) := by
          rw [← hW]
          have := OwnInts.piece (ownInts_new w1 (List.replicate n 0)) (B := w1.heap.size) (C := w1.heap.size + 1) (Nat.le_refl _) (Nat.lt_succ_self _) n
          show Piece _ _ _ _ _
          simpa using this
        have B0 : Hid (Below w1.heap.size w1 W) := by rw [← hW]; exact bAlloc (Below.refl _ _) _
        have S0 : Hid (w1.heap.size + 1 ≤ W.heap.size) := by rw [← hW]; show _ ≤ _; simp
        clear hW hmk
        go_loopw [29] (fun i w' => ∃ (k : Nat) (l : List Int), k ≤ n ∧ i = .int .i64 (k : Int) ∧ l = setTo (fun (i : Nat) => (i : Int)) (List.replicate n 0) k ∧ l.length = n ∧ Piece w1.heap.size (w1.heap.size + 1) w' (.slice (some ⟨w1.heap.size, 0, none⟩) n n) l ∧ Below w1.heap.size w1 w' ∧ w1.heap.size + 1 ≤ w'.heap.size) (fun i _ => n - (intOf i).toNat)
        case atStart => exact ⟨0, _, by omega, rfl, by rw [setTo_zero], by simp, P0.out, B0.out, S0.out⟩
        case round =>
          obtain ⟨k, l, hk, rfl, hl, hll, hP, hb, hs⟩ := hrel
          have HL : Hid (l = setTo (fun (i : Nat) => (i : Int)) (List.replicate n 0) k) := hl
          have HLL : Hid (l.length = n) := hll
          have HP : Hid (Piece w1.heap.size (w1.heap.size + 1) wr (.slice (some ⟨w1.heap.size, 0, none⟩) n n) l) := hP
          have HB : Hid (Below w1.heap.size w1 wr ∧ w1.heap.size + 1 ≤ wr.heap.size) := ⟨hb, hs⟩
          clear hl hll hP hb hs P0 B0 S0
          by_cases hlt : (k : Int) < (n : Int)
          · obtain ⟨t1, t2, _, _, _⟩ := HP.out.cellAt (k := k) (by rw [HLL.out]; omega)
            rw [Nat.zero_add] at t1 t2
            generalize l.getD k 0 = z at t1
            have E3 : Hid (l.set k (k : Int) = setTo (fun (i : Nat) => (i : Int)) (List.replicate n 0) (k + 1)) := by show _ = _; rw [HL.out]; exact setTo_set (fun (i : Nat) => (i : Int)) _ (by simp; omega)
            go_wp2
            go_roundw
            case rel => exact ⟨k + 1, _, by omega, by go_num, E3.out, by rw [List.length_set]; exact HLL.out, piece_setN5 HP.out HLL.out (by omega) _, below_setCell HB.out.1 (Nat.le_refl _) _ _, by rw [size_setCell]; exact HB.out.2⟩
            case measure => simp [intOf]; omega
          · obtain rfl : k = n := by omega
            have ED : Hid (D = l) := by show _ = _; rw [ES.out.2, HL.out, setTo_all _ _ (by simp)]
            have R3 : Hid (Box wr (w.heap.size + 1) (.slice none 0 0) (.slice none 0 0) 26) := R1.out.keep HB.out.1
            have LT : Hid (w.heap.size + 1 < w1.heap.size) := R1.out.lt
            have HB5 : Hid (Below w.heap.size w wr) := bTrans HB1.out HB.out.1
            have R4 : Hid (Box (wr.alloc (.cells #[.int .i64 (k : Int)] 3)) (w.heap.size + 1) (.slice none 0 0) (.slice none 0 0) 26) := R3.out.keep (bAlloc (Below.refl _ _) _)
            have PS : Hid (Piece wr.heap.size (wr.heap.size + 1) (wr.alloc (.cells #[.int .i64 (k : Int)] 3)) (.slice (some ⟨wr.heap.size, 0, none⟩) 1 1) [(k : Int)]) := by
              have p := OwnInts.piece (ownInts_new wr [(k : Int)]) (B := wr.heap.size) (C := wr.heap.size + 1) (Nat.le_refl _) (Nat.lt_succ_self _) 1
              show Piece _ _ _ _ _
              simpa [vals] using p
            have PD : Hid (Piece w1.heap.size (w1.heap.size + 1) (wr.alloc (.cells #[.int .i64 (k : Int)] 3)) (.slice (some ⟨w1.heap.size, 0, none⟩) k k) l) := HP.out.keep (bAlloc (Below.refl _ _) _)
            have HB6 : Hid (Below w.heap.size w (wr.alloc (.cells #[.int .i64 (k : Int)] 3))) := bTrans HB5.out (bAlloc (Below.refl _ _) _)
            have SZ : Hid ((wr.alloc (.cells #[.int .i64 (k : Int)] 3)).heap.size = wr.heap.size + 1) := by show _ = _; simp
            have y0 := R3.out.c0
            have y1 := R3.out.c1
            have f0 : wr.frozen? ⟨w.heap.size + 1, 0, none⟩ = false := free_at R3.out 0
            have f1 : wr.frozen? ⟨w.heap.size + 1, 1, none⟩ = false := free_at R3.out 1
            have y0' := R4.out.c0
            have y1' := R4.out.c1
            have f0' : (wr.alloc (.cells #[.int .i64 (k : Int)] 3)).frozen? ⟨w.heap.size + 1, 0, none⟩ = false := free_at R4.out 0
            have f1' : (wr.alloc (.cells #[.int .i64 (k : Int)] 3)).frozen? ⟨w.heap.size + 1, 1, none⟩ = false := free_at R4.out 1
            have HR : Hid ((((wr.alloc (.cells #[.int .i64 (k : Int)] 3)).setCell ⟨w.heap.size + 1, 0, none⟩ (.slice (some ⟨wr.heap.size, 0, none⟩) 1 1)).setCell ⟨w.heap.size + 1, 1, none⟩ (.slice (some ⟨w1.heap.size, 0, none⟩) k k)).heap[w.heap.size + 1]? = some (.cells #[.slice (some ⟨wr.heap.size, 0, none⟩) 1 1, .slice (some ⟨w1.heap.size, 0, none⟩) k k] 26 (0, 0))) := arr_stored R4.out
            go_wp2
            refine bodyPost_ret (results_arr_tmp Try.results10 _ _ (w.heap.size + 1) _ _ rfl HR.out) rfl ?_
            refine ⟨_, rfl, ?_, below_setCell (below_setCell HB6.out (by omega) _ _) (by omega) _ _⟩
            have L1 := LT.out
            have L2 := HB.out.2
            have L3 := SZ.out
            rw [ES.out.1, ED.out]
            have p1' := (PS.out.win (win_setCell _ (w.heap.size + 1) 0 (.slice (some ⟨wr.heap.size, 0, none⟩) 1 1)) (.inr (by omega))).win (win_setCell _ (w.heap.size + 1) 1 (.slice (some ⟨w1.heap.size, 0, none⟩) k k)) (.inr (by omega))
            have p2' := (PD.out.win (win_setCell _ (w.heap.size + 1) 0 (.slice (some ⟨wr.heap.size, 0, none⟩) 1 1)) (.inr (by omega))).win (win_setCell _ (w.heap.size + 1) 1 (.slice (some ⟨w1.heap.size, 0, none⟩) k k)) (.inr (by omega))
            exact ⟨_, _, rfl, p1'.mono (by omega) (by simp only [size_setCell]; omega), p2'.mono (by omega) (by simp only [size_setCell]; omega), p1'.apart p2' (.inr (by omega))⟩
  · obtain ⟨rfl, rfl, rfl⟩ := E1.out hy
    have hne : (x != 0) = true := by simpa using hy
    clear E1 E2 E3 E4 hy
    have y0 := R1.out.c0
    have y1 := R1.out.c1
    have f0 : w1.frozen? ⟨w.heap.size + 1, 0, none⟩ = false := free_at R1.out 0
    have f1 : w1.frozen? ⟨w.heap.size + 1, 1, none⟩ = false := free_at R1.out 1
    have HR : Hid (((w1.setCell ⟨w.heap.size + 1, 0, none⟩ (.slice none 0 0)).setCell ⟨w.heap.size + 1, 1, none⟩ (.slice none 0 0)).heap[w.heap.size + 1]? = some (.cells #[.slice none 0 0, .slice none 0 0] 26 (0, 0))) := arr_stored R1.out
    go_wp2
    refine bodyPost_ret (results_arr_tmp Try.results10 _ _ (w.heap.size + 1) _ _ rfl HR.out) rfl ?_
    exact ⟨_, rfl, arr_zero _ _ _, below_setCell (below_setCell HB1.out (by omega) _ _) (by omega) _ _⟩
end Go.Proofs.Ytbmkfmppcojcgaa
