/-
  Lists of Expr of one's own: in a block, their lists behind it, each in blocks of its own; filled one by one, turned, marked and looked at.
-/
import Derived.Test.YtnebjnglcfebeaaDoorTreeO
namespace Go.Proofs.YtnebjnglcfebeaaDoor
open Go.RowKit
set_option linter.unusedVariables false
set_option linter.unusedSimpArgs false
/-- Marked from k0 on. -/
def MkdExprsI (k0 : Int) (N0 : Nat → List Int) (k : Nat) (E : Nat → Nat → Int) (N : Nat → List Int) : Prop :=
  ∀ i, i < k → (E i 0 = k0 + (totN 6 N0 i : Int) + 0 ∧ E i 1 = k0 + (totN 6 N0 i : Int) + 1 ∧ E i 2 = k0 + (totN 6 N0 i : Int) + 2 ∧ E i 3 = k0 + (totN 6 N0 i : Int) + 3 ∧ E i 4 = k0 + (totN 6 N0 i : Int) + 4 ∧ E i 5 = k0 + (totN 6 N0 i : Int) + 5) ∧ N i = upFrom (k0 + (totN 6 N0 i : Int) + 6) (N0 i).length
/-- One of them is marked. -/
theorem OwnExprsI.mark1 {W : World} {o hi n k : Nat} {E : Nat → Nat → Int} {N : Nat → List Int} (h : OwnExprsI o hi n n W E N) (hk : k < n) (e : Nat → Int) : ∃ xa xc, W.cell? ⟨o, k * 7 + 6, none⟩ = some (.slice xa (N k).length xc) ∧
    ∀ k1 : Int, (N k).length ≤ 1048576 → 0 ≤ k1 → k1 ≤ 4611686018427387904 → Calls Tryd.prog 44 #[.slice xa (N k).length xc, .int .i64 k1] ((((((W.setCell ⟨o, k * 7, none⟩ (.int .i64 (e 0))).setCell ⟨o, k * 7 + 1, none⟩ (.int .i64 (e 1))).setCell ⟨o, k * 7 + 2, none⟩ (.int .i64 (e 2))).setCell ⟨o, k * 7 + 3, none⟩ (.int .i64 (e 3))).setCell ⟨o, k * 7 + 4, none⟩ (.int .i64 (e 4))).setCell ⟨o, k * 7 + 5, none⟩ (.int .i64 (e 5))) fun r w' => r = .returned (.int .i64 (k1 + (N k).length)) ∧ OwnExprsI o hi n n w' (fun i => if i = k then e else E i) (fun i => if i = k then upFrom k1 (N k).length else N i) ∧ Win o hi W w' := by
  have hlt := h.lthi
  have ht := h.turn hk e
  obtain ⟨xa, xc, B, C, cx, hB, hC, hp, hall⟩ := ht.piece hk
  have cw : W.cell? ⟨o, k * 7 + 6, none⟩ = some (.slice xa (N k).length xc) := by
    obtain ⟨A, x, lo, h1, h2, h3, h4, h5, h6, h7⟩ := h
    have e0 := heap_setCell_same W o (k * 7) _ _ (.int .i64 (e 0)) h1
    have e1 := heap_setCell_same _ o (k * 7 + 1) _ _ (.int .i64 (e 1)) e0
    have e2 := heap_setCell_same _ o (k * 7 + 2) _ _ (.int .i64 (e 2)) e1
    have e3 := heap_setCell_same _ o (k * 7 + 3) _ _ (.int .i64 (e 3)) e2
    have e4 := heap_setCell_same _ o (k * 7 + 4) _ _ (.int .i64 (e 4)) e3
    have e5 := heap_setCell_same _ o (k * 7 + 5) _ _ (.int .i64 (e 5)) e4
    obtain ⟨⟨q0, q1, q2, q3, q4, q5, q6⟩, qz⟩ := h7 k hk
    have c1 : ((((((W.setCell ⟨o, k * 7, none⟩ (.int .i64 (e 0))).setCell ⟨o, k * 7 + 1, none⟩ (.int .i64 (e 1))).setCell ⟨o, k * 7 + 2, none⟩ (.int .i64 (e 2))).setCell ⟨o, k * 7 + 3, none⟩ (.int .i64 (e 3))).setCell ⟨o, k * 7 + 4, none⟩ (.int .i64 (e 4))).setCell ⟨o, k * 7 + 5, none⟩ (.int .i64 (e 5))).cell? ⟨o, k * 7 + 6, none⟩ = some (x k) := cell_at e5 (by rw [Array.getElem?_setIfInBounds, if_neg (by omega), Array.getElem?_setIfInBounds, if_neg (by omega), Array.getElem?_setIfInBounds, if_neg (by omega), Array.getElem?_setIfInBounds, if_neg (by omega), Array.getElem?_setIfInBounds, if_neg (by omega), Array.getElem?_setIfInBounds, if_neg (by omega)]; exact q6)
    rw [← cx, c1]
    exact cell_at h1 q6
  refine ⟨xa, xc, cw, fun k1 hl p1 p2 => (mark_pieceW hp hl k1 p1 p2).mono ?_⟩
  rintro r w' ⟨rfl, hq, ho⟩
  have hw := ho.win hp
  refine ⟨rfl, hall w' _ hq hw, Win.trans ?_ ⟨hw.os, hw.tape, hw.output, hw.size, fun j hj hd => hw.block j hj (by omega)⟩⟩
  exact ((((((Win.refl _ _ _).setCell (Nat.le_refl _) hlt.1 _ _).setCell (Nat.le_refl _) hlt.1 _ _).setCell (Nat.le_refl _) hlt.1 _ _).setCell (Nat.le_refl _) hlt.1 _ _).setCell (Nat.le_refl _) hlt.1 _ _).setCell (Nat.le_refl _) hlt.1 _ _
set_option maxRecDepth 20000 in
set_option maxHeartbeats 8000000 in
/-- A list is marked: its own cells turn, no other one. -/
theorem markExprS_at {o hi n : Nat} {w : World} {E : Nat → Nat → Int} {N : Nat → List Int} (h : OwnExprsI o hi n n w E N) (hl : ∀ i, (N i).length ≤ 1048576) (hn : n ≤ 1048576) (k0 : Int) (p1 : 0 ≤ k0) (p2 : k0 ≤ 1099511627776) :
    Calls Tryd.prog 26 #[.slice (some ⟨o, 0, none⟩) n n, .int .i64 k0] w fun e w' => e = .returned (.int .i64 (k0 + (totN 6 N n : Int))) ∧ (∃ E' N', OwnExprsI o hi n n w' E' N' ∧ MkdExprsI k0 N n E' N') ∧ Win o hi w w' := by
  have H : Hid (OwnExprsI o hi n n w E N) := h
  have HL : Hid (∀ i, (N i).length ≤ 1048576) := hl
  have HT : Hid (∀ i, i ≤ n → totN 6 N i ≤ 1099518000000) := fun i hi => totN_le hl (by omega) (by omega)
  have T0 : Hid (totN 6 N 0 = 0) := rfl
  clear h hl
  go_enter Tryd.func26, Tryd.ntmps26
  go_wp2
  go_loopw [1, 5] (fun q i w' => ∃ (k : Nat) (E' : Nat → Nat → Int) (N' : Nat → List Int), k ≤ n ∧ i = .int .i64 k ∧ q = .int .i64 (k0 + (totN 6 N k : Int)) ∧ OwnExprsI o hi n n w' E' N' ∧ MkdExprsI k0 N k E' N' ∧ (∀ i, k ≤ i → N' i = N i) ∧ Win o hi w w') (fun _ i _ => n - (intOf i).toNat)
  case atStart => exact ⟨0, E, N, by omega, rfl, by rw [T0.out]; simp, H.out, fun i hi => absurd hi (by omega), fun _ _ => rfl, Win.refl _ _ _⟩
  case round =>
    obtain ⟨k, E', N', hk, rfl, rfl, hO, hM, hN, hW⟩ := hrel
    have HO : Hid (OwnExprsI o hi n n wr E' N') := hO
    have HM : Hid (MkdExprsI k0 N k E' N') := hM
    have HN : Hid (∀ i, k ≤ i → N' i = N i) := hN
    have HW : Hid (Win o hi w wr) := hW
    clear hO hM hN hW
    by_cases hlt : (k : Int) < (n : Int)
    · have L : k < n := by omega
      have ht := HT.out k hk
      have TS : Hid (totN 6 N (k + 1) = totN 6 N k + (6 + (N k).length)) := rfl
      obtain ⟨⟨⟨u0, c0⟩, ⟨u1, c1⟩, ⟨u2, c2⟩, ⟨u3, c3⟩, ⟨u4, c4⟩, ⟨u5, c5⟩, ⟨u6, c6⟩⟩, f0, f1, f2, f3, f4, f5, f6⟩ := HO.out.cells L
      obtain ⟨xa, xc, cx, hall⟩ := HO.out.mark1 L (fun j => k0 + (totN 6 N k : Int) + (j : Int))
      rw [HN.out k (Nat.le_refl _)] at cx hall
      clear c6 u6 f6
      have NXT : Hid (∀ (E'' : Nat → Nat → Int) (N'' : Nat → List Int), E'' = (fun i => if i = k then (fun (j : Nat) => k0 + (totN 6 N k : Int) + (j : Int)) else E' i) → N'' = (fun i => if i = k then upFrom (k0 + (totN 6 N k : Int) + 6) (N k).length else N' i) → MkdExprsI k0 N (k + 1) E'' N'' ∧ ∀ i, k + 1 ≤ i → N'' i = N i) := by
        intro E'' N'' he hn
        subst he hn
        refine ⟨fun i hi => ?_, fun i hi => by simp only [if_neg (show ¬ i = k by omega)]; exact HN.out i (by omega)⟩
        by_cases e : i = k
        · subst e; simp
        · simp only [if_neg e]; exact HM.out i (by omega)
      have CM : Hid (Calls Tryd.prog 44 #[.slice xa (N k).length xc, .int .i64 (k0 + (totN 6 N k : Int) + 1 + 1 + 1 + 1 + 1 + 1)] ((((((wr.setCell ⟨o, k * 7, none⟩ (.int .i64 (k0 + (totN 6 N k : Int)))).setCell ⟨o, k * 7 + 1, none⟩ (.int .i64 (k0 + (totN 6 N k : Int) + 1))).setCell ⟨o, k * 7 + 2, none⟩ (.int .i64 (k0 + (totN 6 N k : Int) + 1 + 1))).setCell ⟨o, k * 7 + 3, none⟩ (.int .i64 (k0 + (totN 6 N k : Int) + 1 + 1 + 1))).setCell ⟨o, k * 7 + 4, none⟩ (.int .i64 (k0 + (totN 6 N k : Int) + 1 + 1 + 1 + 1))).setCell ⟨o, k * 7 + 5, none⟩ (.int .i64 (k0 + (totN 6 N k : Int) + 1 + 1 + 1 + 1 + 1))) fun r w' => r = .returned (.int .i64 (k0 + (totN 6 N (k + 1) : Int))) ∧ (∃ E'' N'', OwnExprsI o hi n n w' E'' N'' ∧ MkdExprsI k0 N (k + 1) E'' N'' ∧ ∀ i, k + 1 ≤ i → N'' i = N i) ∧ Win o hi w w') := by
        have := hall (k0 + (totN 6 N k : Int) + 6) (HL.out k) (by omega) (by omega)
        rw [show k0 + (totN 6 N k : Int) + 1 + 1 = k0 + (totN 6 N k : Int) + 2 by omega, show k0 + (totN 6 N k : Int) + 2 + 1 = k0 + (totN 6 N k : Int) + 3 by omega, show k0 + (totN 6 N k : Int) + 3 + 1 = k0 + (totN 6 N k : Int) + 4 by omega, show k0 + (totN 6 N k : Int) + 4 + 1 = k0 + (totN 6 N k : Int) + 5 by omega, show k0 + (totN 6 N k : Int) + 5 + 1 = k0 + (totN 6 N k : Int) + 6 by omega]
        simp only [Int.natCast_zero, Int.add_zero, Int.ofNat_zero] at this
        refine this.mono ?_
        rintro r w' ⟨rfl, h1, h2⟩
        refine ⟨by rw [TS.out]; congr 2; omega, ⟨_, _, h1, NXT.out _ _ rfl rfl⟩, HW.out.trans h2⟩
      clear hall TS NXT
      generalize (N k).length = nl at *
      generalize totN 6 N k = z at *
      have HZ : Hid (totN 6 N (k + 1) = totN 6 N (k + 1)) := rfl
      generalize hz' : totN 6 N (k + 1) = z' at CM
      have HZ' : Hid (totN 6 N (k + 1) = z') := hz'
      clear HZ hz'
      go_wp2_with fail
      refine CM.out.mono ?_
      rintro r w2 ⟨rfl, ⟨E2, N2, hO, hM, hN⟩, hW⟩
      have O2 : Hid (OwnExprsI o hi n n w2 E2 N2) := hO
      have X2 : Hid (MkdExprsI k0 N (k + 1) E2 N2 ∧ (∀ i, k + 1 ≤ i → N2 i = N i) ∧ Win o hi w w2) := ⟨hM, hN, hW⟩
      clear hO hM hN hW CM
      go_wp2
      go_roundw
      case rel => exact ⟨k + 1, E2, N2, by omega, by go_num, by rw [HZ'.out], O2.out, X2.out⟩
      case measure => simp [intOf]; omega
    · have e : k = n := by omega
      subst e
      go_wp2
      go_ret
      exact ⟨rfl, ⟨E', N', HO.out, HM.out⟩, HW.out⟩
set_option maxRecDepth 20000 in
set_option maxHeartbeats 8000000 in
/-- What is marked is held. -/
theorem heldExprS_at {o hi n : Nat} {w : World} {E : Nat → Nat → Int} {N N0 : Nat → List Int} (k0 : Int) (h : OwnExprsI o hi n n w E N) (hm : MkdExprsI k0 N0 n E N) (hl : ∀ i, (N0 i).length ≤ 1048576) (hn : n ≤ 1048576) (hT : totN 6 N0 n ≤ 1073741824) (p1 : 0 ≤ k0) (p2 : k0 ≤ 1073741824) :
    Calls Tryd.prog 27 #[.slice (some ⟨o, 0, none⟩) n n, .int .i64 k0] w fun e w' => e = .returned (.int .i64 (k0 + (totN 6 N0 n : Int))) ∧ w' = w := by
  have H : Hid (OwnExprsI o hi n n w E N) := h
  have HM : Hid (MkdExprsI k0 N0 n E N) := hm
  have HL : Hid (∀ i, (N0 i).length ≤ 1048576) := hl
  have HT : Hid (∀ i, i ≤ n → totN 6 N0 i ≤ 1073741824) := fun i hi => Nat.le_trans (totN_mono 6 N0 hi) hT
  have T0 : Hid (totN 6 N0 0 = 0) := rfl
  clear h hl hm hT
  go_enter Tryd.func27, Tryd.ntmps27
  go_wp2
  go_loop [1, 5] (fun q i => ∃ (k : Nat), k ≤ n ∧ i = .int .i64 k ∧ q = .int .i64 (k0 + (totN 6 N0 k : Int))) (fun _ i => n - (intOf i).toNat)
  case atStart => exact ⟨0, by omega, rfl, by rw [T0.out]; simp⟩
  case round =>
    obtain ⟨k, hk, rfl, rfl⟩ := hrel
    by_cases hlt : (k : Int) < (n : Int)
    · have L : k < n := by omega
      have ht := HT.out k hk
      have ht2 := HT.out (k + 1) (by omega)
      have TS : totN 6 N0 (k + 1) = totN 6 N0 k + (6 + (N0 k).length) := rfl
      obtain ⟨⟨m0, m1, m2, m3, m4, m5⟩, mn⟩ := HM.out k L
      obtain ⟨A, x, lo, h1, h2, h3, h4, h5, h6, h7⟩ := H.out
      obtain ⟨⟨q0, q1, q2, q3, q4, q5, q6⟩, qz⟩ := h7 k L
      rw [mn] at qz
      obtain ⟨xa, xc, ex, _⟩ := qz.ints
      rw [upFrom_length] at ex
      rw [ex] at qz q6
      have c0 : w.cell? ⟨o, k * 7, none⟩ = some (.int .i64 (k0 + (totN 6 N0 k : Int))) := by rw [cell_at h1 q0, m0, Int.add_zero]
      have c1 : w.cell? ⟨o, k * 7 + 1, none⟩ = some (.int .i64 (k0 + (totN 6 N0 k : Int) + 1)) := by rw [cell_at h1 q1, m1]
      have c2 : w.cell? ⟨o, k * 7 + 2, none⟩ = some (.int .i64 (k0 + (totN 6 N0 k : Int) + 1 + 1)) := by rw [cell_at h1 q2, m2]; congr 2; omega
      have c3 : w.cell? ⟨o, k * 7 + 3, none⟩ = some (.int .i64 (k0 + (totN 6 N0 k : Int) + 1 + 1 + 1)) := by rw [cell_at h1 q3, m3]; congr 2; omega
      have c4 : w.cell? ⟨o, k * 7 + 4, none⟩ = some (.int .i64 (k0 + (totN 6 N0 k : Int) + 1 + 1 + 1 + 1)) := by rw [cell_at h1 q4, m4]; congr 2; omega
      have c5 : w.cell? ⟨o, k * 7 + 5, none⟩ = some (.int .i64 (k0 + (totN 6 N0 k : Int) + 1 + 1 + 1 + 1 + 1)) := by rw [cell_at h1 q5, m5]; congr 2; omega
      have c6 : w.cell? ⟨o, k * 7 + 6, none⟩ = some (.slice xa (N0 k).length xc) := cell_at h1 q6
      have CH : Hid (Calls Tryd.prog 45 #[.slice xa (N0 k).length xc, .int .i64 (k0 + (totN 6 N0 k : Int) + 1 + 1 + 1 + 1 + 1 + 1)] w fun e w' => e = .returned (.int .i64 (k0 + (totN 6 N0 (k + 1) : Int))) ∧ w' = w) := by
        have := held_piece (k0 + (totN 6 N0 k : Int) + 6) qz (HL.out k) (by omega) (by omega)
        rw [show k0 + (totN 6 N0 k : Int) + 1 + 1 = k0 + (totN 6 N0 k : Int) + 2 by omega, show k0 + (totN 6 N0 k : Int) + 2 + 1 = k0 + (totN 6 N0 k : Int) + 3 by omega, show k0 + (totN 6 N0 k : Int) + 3 + 1 = k0 + (totN 6 N0 k : Int) + 4 by omega, show k0 + (totN 6 N0 k : Int) + 4 + 1 = k0 + (totN 6 N0 k : Int) + 5 by omega, show k0 + (totN 6 N0 k : Int) + 5 + 1 = k0 + (totN 6 N0 k : Int) + 6 by omega]
        refine this.mono ?_
        rintro e w' ⟨rfl, h⟩
        exact ⟨by rw [TS]; congr 2; omega, h⟩
      have PZ : 0 ≤ k0 + (totN 6 N0 (k + 1) : Int) := by omega
      clear q0 q1 q2 q3 q4 q5 q6 h1 h2 h3 h4 h5 h6 h7 qz ex mn m0 m1 m2 m3 m4 m5 TS
      generalize (N0 k).length = nl at *
      generalize totN 6 N0 k = z at *
      generalize hz' : totN 6 N0 (k + 1) = z' at CH PZ ht2
      have HZ' : Hid (totN 6 N0 (k + 1) = z') := hz'
      clear hz'
      go_wp2_with fail
      refine CH.out.mono ?_
      rintro r w' ⟨rfl, hw⟩
      subst w'
      clear CH
      go_wp2
      go_round
      case rel => exact ⟨k + 1, by omega, by go_num, by rw [HZ'.out]⟩
      case measure => simp [intOf]; omega
    · have e : k = n := by omega
      subst e
      go_wp2
      go_ret
      exact ⟨rfl, rfl⟩
end Go.Proofs.YtnebjnglcfebeaaDoor
