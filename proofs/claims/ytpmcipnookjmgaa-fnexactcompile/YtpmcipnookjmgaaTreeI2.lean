/-
  Walks: the program's TreeOk.
-/
import Derived.Test.YtpmcipnookjmgaaTreeI
import Derived.Test.YtpmcipnookjmgaaCutJ
import Derived.Test.YtpmcipnookjmgaaImplArr1
namespace Go.Proofs.Ytpmcipnookjmgaa
open Go.RowKit
set_option linter.unusedVariables false
set_option linter.unusedSimpArgs false
theorem freeS_le (E : Nat → Nat → Int) (k : Nat) : (freeS E k).length ≤ k := by
  induction k with
  | zero => simp [freeS]
  | succ k ih => simp only [freeS, List.length_append, List.length_take, List.length_cons, List.length_nil]; omega
set_option maxRecDepth 20000 in
set_option maxHeartbeats 8000000 in
/-- The program's TreeOk. -/
theorem treeOk_impl {w : World} {v : Value} {n : Nat} {E : Nat → Nat → Int} {N : Nat → List Int} (h : ExprsI w v n E N) (hl : ∀ i, (N i).length ≤ 1048576) (hn : n ≤ 1048576) :
    Calls Try.prog 16 #[.agg #[v]] w fun r w' => r = .returned (.bool (treeB n E N)) ∧ Below w.heap.size w w' := by
  have H : Hid (ExprsI w v n E N) := h
  have HL : Hid (∀ i, (N i).length ≤ 1048576) := hl
  clear hl
  obtain ⟨a, c, rfl, _⟩ := h
  by_cases h60 : 60 < (n : Int)
  · rw [treeB_false (fun h => by have := h.2.1; omega)]
    go_enter Try.func16, Try.ntmps16
    go_wp2
    go_ret
    exact ⟨rfl, one_below⟩
  have n60 : n ≤ 60 := by omega
  have GD : Hid (upTo E N n → treeB n E N = decide ((freeS E n).length = 1)) := fun h1 => by
    by_cases h3 : (freeS E n).length = 1
    · rw [decide_eq_true h3]
      refine treeB_true ⟨?_, n60, h1, h3⟩
      have := freeS_le E n
      omega
    · rw [decide_eq_false h3]; exact treeB_false fun h => h3 h.2.2.2
  have BD : Hid (∀ k, k < n → (nodeB (E k) (N k) && fitsB (freeS E k) (E k)) = false → treeB n E N = false) := fun k hk h => treeB_false fun g => by
    have g1 := g.2.2.1 k hk
    rw [g1.1, g1.2] at h
    exact absurd h (by decide)
  generalize treeB n E N = Q at *
  go_enter Try.func16, Try.ntmps16
  go_wp2_with fail
  generalize hW : w.alloc (.cells #[.slice a n c] 31) = W0
  have B0 : Hid (Below w.heap.size w W0) := by rw [← hW]; exact one_below
  clear hW
  go_loopw [3, 15] (fun u i w' => ∃ (k : Nat) (ad : Option Addr) (cd : Nat), k ≤ n ∧ u = .slice ad (freeS E k).length cd ∧ i = .int .i64 (k : Int) ∧ upTo E N k ∧ NewInts W0.heap.size w' (.slice ad (freeS E k).length cd) (freeS E k) ∧ Below W0.heap.size W0 w') (fun _ i _ => n - (intOf i).toNat)
  case atStart => exact ⟨0, _, _, by omega, rfl, rfl, fun i hi => absurd hi (by omega), NewInts.nil _ _, Below.refl _ _⟩
  case round =>
    obtain ⟨k, ad, cd, hk, rfl, rfl, hA, hN, hB⟩ := hrel
    have HA : Hid (upTo E N k) := hA
    have NK : Hid (NewInts W0.heap.size wr (.slice ad (freeS E k).length cd) (freeS E k)) := hN
    have BK : Hid (Below W0.heap.size W0 wr) := hB
    clear hA hN hB
    by_cases hlt : (k : Int) < (n : Int)
    · have L : k < n := by omega
      obtain ⟨o, off, xa, xc, rfl, ho, ⟨p0, p1, p2, p3, p4, p5, p6⟩, ar⟩ := (H.out.keep (bTrans B0.out BK.out)).at L
      have CN : Hid (∀ W, Below wr.heap.size wr W → Calls Try.prog 28 #[.agg #[.int .i64 (E k 0), .int .i64 (E k 1), .int .i64 (E k 2), .int .i64 (E k 3), .int .i64 (E k 4), .int .i64 (E k 5), .slice xa (N k).length xc]] W fun r w' => r = .returned (.bool (nodeB (E k) (N k))) ∧ Below W.heap.size W w') := fun W hb => nodeOk_impl (E k) (ar.keep hb) (HL.out k)
      have CT : Hid (∀ W, Calls Try.prog 27 #[.agg #[.int .i64 (E k 0), .int .i64 (E k 1), .int .i64 (E k 2), .int .i64 (E k 3), .int .i64 (E k 4), .int .i64 (E k 5), .slice xa (N k).length xc]] W fun r w' => TakPost W (takL (E k)) r w') := fun W => takenBy_impl (E k)
      have NX : Hid (nodeB (E k) (N k) = true → fitsB (freeS E k) (E k) = true → upTo E N (k + 1)) := fun h1 h2 i hi => by
        by_cases e : i = k
        · subst e; exact ⟨h1, h2⟩
        · exact HA.out i (by omega)
      have BY : Hid ((nodeB (E k) (N k) && fitsB (freeS E k) (E k)) = false → Q = false) := BD.out k L
      have EF : Hid (fitsB (freeS E k) (E k) = (decide ((takL (E k)).length ≤ (freeS E k).length) && decide ((freeS E k).drop ((freeS E k).length - (takL (E k)).length) = takL (E k)))) := rfl
      have EL : Hid (freeS E (k + 1) = (freeS E k).take ((freeS E k).length - (takL (E k)).length) ++ [(k : Int)]) := rfl
      have LL := freeS_le E k
      have LT : (takL (E k)).length ≤ 2 := by unfold takL; split; simp; split <;> simp
      clear ho ar
      generalize nodeB (E k) (N k) = q at *
      generalize fitsB (freeS E k) (E k) = q' at *
      generalize E k 0 = q0 at *
      generalize E k 1 = q1 at *
      generalize E k 2 = q2 at *
      generalize E k 3 = q3 at *
      generalize E k 4 = q4 at *
      generalize E k 5 = q5 at *
      generalize (N k).length = nl at *
      generalize takL (E k) = T at *
      obtain ⟨F', hF'⟩ : ∃ F', F' = freeS E (k + 1) := ⟨_, rfl⟩
      have HF' : Hid (F' = freeS E (k + 1)) := hF'
      rw [← hF'] at EL
      clear hF'
      generalize freeS E k = F at *
      go_wp2_with fail
      refine (CT.out _).mono ?_
      rintro r w2 ⟨ta, tc, rfl, ti, hb⟩
      have hnew := heap_alloc_new wr (.cells #[.int .i64 q0, .int .i64 q1, .int .i64 q2, .int .i64 q3, .int .i64 q4, .int .i64 q5, .slice xa nl xc] 44)
      have BN : Hid (w2.heap[wr.heap.size]? = some (.cells #[.int .i64 q0, .int .i64 q1, .int .i64 q2, .int .i64 q3, .int .i64 q4, .int .i64 q5, .slice xa nl xc] 44 (0, 0))) := by show _ = _; rw [hb.block _ (by simp)]; exact hnew
      have TI : Hid (Ints w2 ta T) := ti
      have Br2 : Hid (Below wr.heap.size wr w2) := bTrans one_below hb
      have B2 : Hid (Below W0.heap.size W0 w2) := bTrans BK.out Br2.out
      have NK2 : Hid (NewInts W0.heap.size w2 (.slice ad F.length cd) F) := NK.out.keep Br2.out
      clear hb hnew ti p0 p1 p2 p3 p4 p5 p6 NK
      have c0 : w2.cell? ⟨wr.heap.size, 0, none⟩ = some (.int .i64 q0) := cell_at BN.out rfl
      have c1 : w2.cell? ⟨wr.heap.size, 1, none⟩ = some (.int .i64 q1) := cell_at BN.out rfl
      have c2 : w2.cell? ⟨wr.heap.size, 2, none⟩ = some (.int .i64 q2) := cell_at BN.out rfl
      have c3 : w2.cell? ⟨wr.heap.size, 3, none⟩ = some (.int .i64 q3) := cell_at BN.out rfl
      have c4 : w2.cell? ⟨wr.heap.size, 4, none⟩ = some (.int .i64 q4) := cell_at BN.out rfl
      have c5 : w2.cell? ⟨wr.heap.size, 5, none⟩ = some (.int .i64 q5) := cell_at BN.out rfl
      have c6 : w2.cell? ⟨wr.heap.size, 6, none⟩ = some (.slice xa nl xc) := cell_at BN.out rfl
      by_cases hm : T.length ≤ F.length
      · obtain ⟨M, hM⟩ : ∃ M, F.length = M + T.length := ⟨F.length - T.length, by omega⟩
        have hMt : (F.length : Int) - (T.length : Int) = (M : Int) := by omega
        have hMn : F.length - T.length = M := by omega
        rw [hMn] at EF EL
        rw [decide_eq_true hm, Bool.true_and] at EF
        have gz : ¬ ((M : Int) < 0) := by omega
        have gv : IntKind.i64.wrap (M : Int) = (M : Int) := by rw [IntKind.wrap_i64]; omega
        have HM : Hid (F.length = M + T.length) := hM
        clear hM hMn hm
        go_wp2_with fail
        refine (CN.out _ Br2.out).mono ?_
        rintro r w3 ⟨rfl, hb⟩
        have B3 : Hid (Below W0.heap.size W0 w3) := bTrans B2.out hb
        have NK3 : Hid (NewInts W0.heap.size w3 (.slice ad F.length cd) F) := NK2.out.keep hb
        have TI3 : Hid (Ints w3 ta T) := TI.out.keep hb
        clear hb c0 c1 c2 c3 c4 c5 c6 NK2 TI BN
        cases q
        · have QF : Hid (Q = false) := BY.out rfl
          go_wp2
          go_ret
          exact ⟨by rw [QF.out]; rfl, bTrans B0.out B3.out⟩
        · obtain ⟨_, _, ev, hcd, fi⟩ := NK3.out.piece.intsI
          cases ev
          obtain ⟨a', c', hrun, hi⟩ := intsJ_from (M := M) fi hcd (by have := HM.out; omega)
          have HEQ : Hid (Calls Try.prog 29 #[.slice a' (F.drop M).length c', .slice ta T.length tc] w3 fun e w' => e = .returned (.bool (decide (F.drop M = T))) ∧ ∃ j, w' = w3.drewN j) := equal_impl c' tc (by have := HM.out; simp; omega) hi TI3.out
          rw [← EF.out] at HEQ
          clear fi hi
          generalize (F.drop M).length = dl at *
          go_wp2_with fail
          refine HEQ.out.mono ?_
          rintro r w4 ⟨rfl, j4, hw4⟩
          have B4 : Hid (Below W0.heap.size W0 w4) := by rw [hw4]; exact bDrewN B3.out _
          have NK4 : Hid (NewInts W0.heap.size w4 (.slice ad F.length cd) F) := by rw [hw4]; exact NK3.out
          clear hw4 NK3
          cases q'
          · have QF : Hid (Q = false) := BY.out rfl
            go_wp2
            go_ret
            exact ⟨by rw [QF.out]; rfl, bTrans B0.out B4.out⟩
          · have NY : Hid (upTo E N (k + 1)) := by first | exact NX.out rfl rfl | exact NX.out trivial rfl | exact NX.out rfl trivial | exact NX.out trivial trivial
            obtain ⟨a6, c6, hrun6, hN6⟩ := newJ_upto (M := M) NK4.out (by have := HM.out; omega)
            have LM : (F.take M).length = M := by have := HM.out; simp; omega
            obtain ⟨a5, c5, w5, hr, h5, hb5⟩ := grow1 (k : Int) hN6 B4.out.size (by rw [LM]; have := HM.out; omega)
            rw [LM] at hr h5
            rw [← EL.out] at h5
            have LF : Hid (F'.length = M + 1) := by have := HM.out; show _ = _; rw [EL.out]; simp; omega
            have R5 : Hid ((Builtin.append_ #[42, 42] 42 #[.slice a6 M c6, .slice (some ⟨w4.heap.size, 0, none⟩) 1 1]).run Try.prog (w4.alloc (.cells #[.int .i64 (k : Int)] 3)) = .ok (.slice a5 (M + 1) c5) w5) := hr
            have N5 : Hid (NewInts W0.heap.size w5 (.slice a5 (M + 1) c5) F') := h5
            have B5 : Hid (Below W0.heap.size W0 w5) := B4.out.trans hb5
            clear hr h5 hb5 hN6 LM
            go_wp2_with (at_builtin; refine wpList_append_ty rfl _ _ 42 42 rfl _ _ _ rfl rfl R5.out ?_)
            go_roundw
            case rel => exact ⟨k + 1, a5, c5, by omega, by rw [← HF'.out, LF.out], by go_num, NY.out, by rw [← HF'.out, LF.out]; exact N5.out, B5.out⟩
            case measure => simp [intOf]; omega
      · have QF : Hid (Q = false) := BY.out (by rw [EF.out, decide_eq_false hm, Bool.false_and, Bool.and_false])
        have gz : (F.length : Int) - (T.length : Int) < 0 := by omega
        go_wp2_with fail
        refine (CN.out _ Br2.out).mono ?_
        rintro r w3 ⟨rfl, hb⟩
        have B3 : Hid (Below W0.heap.size W0 w3) := bTrans B2.out hb
        clear hb c0 c1 c2 c3 c4 c5 c6 NK2 TI BN
        cases q
        all_goals
          go_wp2
          go_ret
          exact ⟨by rw [QF.out]; rfl, bTrans B0.out B3.out⟩
    · obtain rfl : k = n := by omega
      have QT : Hid (Q = decide ((freeS E k).length = 1)) := GD.out HA.out
      generalize (freeS E k).length = m at *
      go_wp2
      go_ret
      refine ⟨ret_bool ?_, bTrans B0.out BK.out⟩
      rw [QT.out]
      first | rfl | (rw [Bool.eq_iff_iff]; simp; done) | (rw [Bool.eq_iff_iff]; simp; omega)
end Go.Proofs.Ytpmcipnookjmgaa
