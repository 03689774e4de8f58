/-
  Several walks, one behind the other: TreeK, TreeT, TreeF, TreeV, TreeX, CompM, CodeU, CodeO, CodeK, Byt, RowsI, InsG, TreeS5, TreeS6, CompS, ImplArr2, CompI.
-/
import Derived.Test.YtpmcipnookjmgaaTreeO
import Derived.Test.YtpmcipnookjmgaaTreeQ
import Derived.Test.YtpmcipnookjmgaaFrame
import Derived.Deep.Slices
import Derived.Test.YtpmcipnookjmgaaTreeU
import Derived.Lib.SmallJoins
import Derived.Test.YtpmcipnookjmgaaTreeM
import Derived.Test.YtpmcipnookjmgaaCodeM
import Derived.Test.YtpmcipnookjmgaaCodeQ
import Derived.Test.YtpmcipnookjmgaaFunOk
import Derived.Test.YtpmcipnookjmgaaMarkW
import Derived.Test.YtpmcipnookjmgaaGrow
import Derived.Test.YtpmcipnookjmgaaInts
import Derived.Test.YtpmcipnookjmgaaRowsM
import Derived.Test.YtpmcipnookjmgaaAppend
import Derived.Test.YtpmcipnookjmgaaTreeS4
import Derived.Test.YtpmcipnookjmgaaArr
import Derived.Test.YtpmcipnookjmgaaLaw3
import Derived.Test.YtpmcipnookjmgaaImplShape0
import Derived.Test.YtpmcipnookjmgaaTreeI2
namespace Go.Proofs.Ytpmcipnookjmgaa
open Go.RowKit
set_option linter.unusedVariables false
set_option linter.unusedSimpArgs false
/-- Marked from k0 on. -/
def MkdExprsI (k0 : Int) (N0 : Nat → List Int) (k : Nat) (E : Nat → Nat → Int) (N : Nat → List Int) : Prop :=
  ∀ i, i < k → (E i 0 = k0 + (totN 6 N0 i : Int) + 0 ∧ E i 1 = k0 + (totN 6 N0 i : Int) + 1 ∧ E i 2 = k0 + (totN 6 N0 i : Int) + 2 ∧ E i 3 = k0 + (totN 6 N0 i : Int) + 3 ∧ E i 4 = k0 + (totN 6 N0 i : Int) + 4 ∧ E i 5 = k0 + (totN 6 N0 i : Int) + 5) ∧ N i = upFrom (k0 + (totN 6 N0 i : Int) + 6) (N0 i).length
/-- One of them is marked. -/
theorem OwnExprsI.mark1 {W : World} {o hi n k : Nat} {E : Nat → Nat → Int} {N : Nat → List Int} (h : OwnExprsI o hi n n W E N) (hk : k < n) (e : Nat → Int) : ∃ xa xc, W.cell? ⟨o, k * 7 + 6, none⟩ = some (.slice xa (N k).length xc) ∧
    ∀ k1 : Int, (N k).length ≤ 1048576 → 0 ≤ k1 → k1 ≤ 4611686018427387904 → Calls Try.prog 21 #[.slice xa (N k).length xc, .int .i64 k1] ((((((W.setCell ⟨o, k * 7, none⟩ (.int .i64 (e 0))).setCell ⟨o, k * 7 + 1, none⟩ (.int .i64 (e 1))).setCell ⟨o, k * 7 + 2, none⟩ (.int .i64 (e 2))).setCell ⟨o, k * 7 + 3, none⟩ (.int .i64 (e 3))).setCell ⟨o, k * 7 + 4, none⟩ (.int .i64 (e 4))).setCell ⟨o, k * 7 + 5, none⟩ (.int .i64 (e 5))) fun r w' => r = .returned (.int .i64 (k1 + (N k).length)) ∧ OwnExprsI o hi n n w' (fun i => if i = k then e else E i) (fun i => if i = k then upFrom k1 (N k).length else N i) ∧ Win o hi W w' := by
  have hlt := h.lthi
  have ht := h.turn hk e
  obtain ⟨xa, xc, B, C, cx, hB, hC, hp, hall⟩ := ht.piece hk
  have cw : W.cell? ⟨o, k * 7 + 6, none⟩ = some (.slice xa (N k).length xc) := by
    obtain ⟨A, x, lo, h1, h2, h3, h4, h5, h6, h7⟩ := h
    have e0 := heap_setCell_same W o (k * 7) _ _ (.int .i64 (e 0)) h1
    have e1 := heap_setCell_same _ o (k * 7 + 1) _ _ (.int .i64 (e 1)) e0
    have e2 := heap_setCell_same _ o (k * 7 + 2) _ _ (.int .i64 (e 2)) e1
    have e3 := heap_setCell_same _ o (k * 7 + 3) _ _ (.int .i64 (e 3)) e2
    have e4 := heap_setCell_same _ o (k * 7 + 4) _ _ (.int .i64 (e 4)) e3
    have e5 := heap_setCell_same _ o (k * 7 + 5) _ _ (.int .i64 (e 5)) e4
    obtain ⟨⟨q0, q1, q2, q3, q4, q5, q6⟩, qz⟩ := h7 k hk
    have c1 : ((((((W.setCell ⟨o, k * 7, none⟩ (.int .i64 (e 0))).setCell ⟨o, k * 7 + 1, none⟩ (.int .i64 (e 1))).setCell ⟨o, k * 7 + 2, none⟩ (.int .i64 (e 2))).setCell ⟨o, k * 7 + 3, none⟩ (.int .i64 (e 3))).setCell ⟨o, k * 7 + 4, none⟩ (.int .i64 (e 4))).setCell ⟨o, k * 7 + 5, none⟩ (.int .i64 (e 5))).cell? ⟨o, k * 7 + 6, none⟩ = some (x k) := cell_at e5 (by rw [Array.getElem?_setIfInBounds, if_neg (by omega), Array.getElem?_setIfInBounds, if_neg (by omega), Array.getElem?_setIfInBounds, if_neg (by omega), Array.getElem?_setIfInBounds, if_neg (by omega), Array.getElem?_setIfInBounds, if_neg (by omega), Array.getElem?_setIfInBounds, if_neg (by omega)]; exact q6)
    rw [← cx, c1]
    exact cell_at h1 q6
  refine ⟨xa, xc, cw, fun k1 hl p1 p2 => (mark_pieceW hp hl k1 p1 p2).mono ?_⟩
  rintro r w' ⟨rfl, hq, ho⟩
  have hw := ho.win hp
  refine ⟨rfl, hall w' _ hq hw, Win.trans ?_ ⟨hw.os, hw.tape, hw.output, hw.size, fun j hj hd => hw.block j hj (by omega)⟩⟩
  exact ((((((Win.refl _ _ _).setCell (Nat.le_refl _) hlt.1 _ _).setCell (Nat.le_refl _) hlt.1 _ _).setCell (Nat.le_refl _) hlt.1 _ _).setCell (Nat.le_refl _) hlt.1 _ _).setCell (Nat.le_refl _) hlt.1 _ _).setCell (Nat.le_refl _) hlt.1 _ _
set_option maxRecDepth 20000 in
set_option maxHeartbeats 8000000 in
/-- A list is marked: its own cells turn, no other one. -/
theorem markExprS_at {o hi n : Nat} {w : World} {E : Nat → Nat → Int} {N : Nat → List Int} (h : OwnExprsI o hi n n w E N) (hl : ∀ i, (N i).length ≤ 1048576) (hn : n ≤ 1048576) (k0 : Int) (p1 : 0 ≤ k0) (p2 : k0 ≤ 1099511627776) :
    Calls Try.prog 20 #[.slice (some ⟨o, 0, none⟩) n n, .int .i64 k0] w fun e w' => e = .returned (.int .i64 (k0 + (totN 6 N n : Int))) ∧ (∃ E' N', OwnExprsI o hi n n w' E' N' ∧ MkdExprsI k0 N n E' N') ∧ Win o hi w w' := by
  have H : Hid (OwnExprsI o hi n n w E N) := h
  have HL : Hid (∀ i, (N i).length ≤ 1048576) := hl
  have HT : Hid (∀ i, i ≤ n → totN 6 N i ≤ 1099518000000) := fun i hi => totN_le hl (by omega) (by omega)
  have T0 : Hid (totN 6 N 0 = 0) := rfl
  clear h hl
  go_enter Try.func20, Try.ntmps20
  go_wp2
  go_loopw [1, 5] (fun q i w' => ∃ (k : Nat) (E' : Nat → Nat → Int) (N' : Nat → List Int), k ≤ n ∧ i = .int .i64 k ∧ q = .int .i64 (k0 + (totN 6 N k : Int)) ∧ OwnExprsI o hi n n w' E' N' ∧ MkdExprsI k0 N k E' N' ∧ (∀ i, k ≤ i → N' i = N i) ∧ Win o hi w w') (fun _ i _ => n - (intOf i).toNat)
  case atStart => exact ⟨0, E, N, by omega, rfl, by rw [T0.out]; simp, H.out, fun i hi => absurd hi (by omega), fun _ _ => rfl, Win.refl _ _ _⟩
  case round =>
    obtain ⟨k, E', N', hk, rfl, rfl, hO, hM, hN, hW⟩ := hrel
    have HO : Hid (OwnExprsI o hi n n wr E' N') := hO
    have HM : Hid (MkdExprsI k0 N k E' N') := hM
    have HN : Hid (∀ i, k ≤ i → N' i = N i) := hN
    have HW : Hid (Win o hi w wr) := hW
    clear hO hM hN hW
    by_cases hlt : (k : Int) < (n : Int)
    · have L : k < n := by omega
      have ht := HT.out k hk
      have TS : Hid (totN 6 N (k + 1) = totN 6 N k + (6 + (N k).length)) := rfl
      obtain ⟨⟨⟨u0, c0⟩, ⟨u1, c1⟩, ⟨u2, c2⟩, ⟨u3, c3⟩, ⟨u4, c4⟩, ⟨u5, c5⟩, ⟨u6, c6⟩⟩, f0, f1, f2, f3, f4, f5, f6⟩ := HO.out.cells L
      obtain ⟨xa, xc, cx, hall⟩ := HO.out.mark1 L (fun j => k0 + (totN 6 N k : Int) + (j : Int))
      rw [HN.out k (Nat.le_refl _)] at cx hall
      clear c6 u6 f6
      have NXT : Hid (∀ (E'' : Nat → Nat → Int) (N'' : Nat → List Int), E'' = (fun i => if i = k then (fun (j : Nat) => k0 + (totN 6 N k : Int) + (j : Int)) else E' i) → N'' = (fun i => if i = k then upFrom (k0 + (totN 6 N k : Int) + 6) (N k).length else N' i) → MkdExprsI k0 N (k + 1) E'' N'' ∧ ∀ i, k + 1 ≤ i → N'' i = N i) := by
        intro E'' N'' he hn
        subst he hn
        refine ⟨fun i hi => ?_, fun i hi => by simp only [if_neg (show ¬ i = k by omega)]; exact HN.out i (by omega)⟩
        by_cases e : i = k
        · subst e; simp
        · simp only [if_neg e]; exact HM.out i (by omega)
      have CM : Hid (Calls Try.prog 21 #[.slice xa (N k).length xc, .int .i64 (k0 + (totN 6 N k : Int) + 1 + 1 + 1 + 1 + 1 + 1)] ((((((wr.setCell ⟨o, k * 7, none⟩ (.int .i64 (k0 + (totN 6 N k : Int)))).setCell ⟨o, k * 7 + 1, none⟩ (.int .i64 (k0 + (totN 6 N k : Int) + 1))).setCell ⟨o, k * 7 + 2, none⟩ (.int .i64 (k0 + (totN 6 N k : Int) + 1 + 1))).setCell ⟨o, k * 7 + 3, none⟩ (.int .i64 (k0 + (totN 6 N k : Int) + 1 + 1 + 1))).setCell ⟨o, k * 7 + 4, none⟩ (.int .i64 (k0 + (totN 6 N k : Int) + 1 + 1 + 1 + 1))).setCell ⟨o, k * 7 + 5, none⟩ (.int .i64 (k0 + (totN 6 N k : Int) + 1 + 1 + 1 + 1 + 1))) fun r w' => r = .returned (.int .i64 (k0 + (totN 6 N (k + 1) : Int))) ∧ (∃ E'' N'', OwnExprsI o hi n n w' E'' N'' ∧ MkdExprsI k0 N (k + 1) E'' N'' ∧ ∀ i, k + 1 ≤ i → N'' i = N i) ∧ Win o hi w w') := by
        have := hall (k0 + (totN 6 N k : Int) + 6) (HL.out k) (by omega) (by omega)
        rw [show k0 + (totN 6 N k : Int) + 1 + 1 = k0 + (totN 6 N k : Int) + 2 by omega, show k0 + (totN 6 N k : Int) + 2 + 1 = k0 + (totN 6 N k : Int) + 3 by omega, show k0 + (totN 6 N k : Int) + 3 + 1 = k0 + (totN 6 N k : Int) + 4 by omega, show k0 + (totN 6 N k : Int) + 4 + 1 = k0 + (totN 6 N k : Int) + 5 by omega, show k0 + (totN 6 N k : Int) + 5 + 1 = k0 + (totN 6 N k : Int) + 6 by omega]
        simp only [Int.natCast_zero, Int.add_zero, Int.ofNat_zero] at this
        refine this.mono ?_
        rintro r w' ⟨rfl, h1, h2⟩
        refine ⟨by rw [TS.out]; congr 2; omega, ⟨_, _, h1, NXT.out _ _ rfl rfl⟩, HW.out.trans h2⟩
      clear hall TS NXT
      generalize (N k).length = nl at *
      generalize totN 6 N k = z at *
      have HZ : Hid (totN 6 N (k + 1) = totN 6 N (k + 1)) := rfl
      generalize hz' : totN 6 N (k + 1) = z' at CM
      have HZ' : Hid (totN 6 N (k + 1) = z') := hz'
      clear HZ hz'
      go_wp2_with fail
      refine CM.out.mono ?_
      rintro r w2 ⟨rfl, ⟨E2, N2, hO, hM, hN⟩, hW⟩
      have O2 : Hid (OwnExprsI o hi n n w2 E2 N2) := hO
      have X2 : Hid (MkdExprsI k0 N (k + 1) E2 N2 ∧ (∀ i, k + 1 ≤ i → N2 i = N i) ∧ Win o hi w w2) := ⟨hM, hN, hW⟩
      clear hO hM hN hW CM
      go_wp2
      go_roundw
      case rel => exact ⟨k + 1, E2, N2, by omega, by go_num, by rw [HZ'.out], O2.out, X2.out⟩
      case measure => simp [intOf]; omega
    · have e : k = n := by omega
      subst e
      go_wp2
      go_ret
      exact ⟨rfl, ⟨E', N', HO.out, HM.out⟩, HW.out⟩
end Go.Proofs.Ytpmcipnookjmgaa
namespace Go.Proofs.Ytpmcipnookjmgaa
open Go.RowKit
set_option linter.unusedVariables false
set_option linter.unusedSimpArgs false
set_option maxRecDepth 20000 in
set_option maxHeartbeats 8000000 in
theorem szExpr_at (e : Nat → Int) (xa : Option Addr) (n c : Nat) (left : Int) (w : World) (p1 : 0 ≤ left) (p2 : left ≤ 1048576) (hn : n ≤ 9223372036854775807) :
    Calls Try.prog 23 #[.agg #[.int .i64 (e 0), .int .i64 (e 1), .int .i64 (e 2), .int .i64 (e 3), .int .i64 (e 4), .int .i64 (e 5), .slice xa n c], .int .i64 left] w fun r w' => r = .returned (.int .i64 (szV n left)) ∧ Below w.heap.size w w' := by
  have CS : Hid (∀ W, Calls Try.prog 34 #[.slice xa n c, .int .i64 left] W fun e w' => e = .returned (.int .i64 (szV n left)) ∧ w' = W) := fun W => szInts_laws xa n c left W p1 p2 hn
  have e0 : szV n left = -1 ∨ 0 ≤ szV n left := by unfold szV; split <;> omega
  generalize szV n left = x at *
  generalize e 0 = q0
  generalize e 1 = q1
  generalize e 2 = q2
  generalize e 3 = q3
  generalize e 4 = q4
  generalize e 5 = q5
  rcases e0 with rfl | e0
  · go_enter Try.func23, Try.ntmps23
    go_wp2_with fail
    refine (CS.out _).mono ?_
    rintro r w2 ⟨rfl, rfl⟩
    go_wp2
    go_ret
    exact ⟨rfl, bAlloc (Below.refl _ _) _⟩
  · have e1 : ¬ x < 0 := by omega
    go_enter Try.func23, Try.ntmps23
    go_wp2_with fail
    refine (CS.out _).mono ?_
    rintro r w2 ⟨rfl, rfl⟩
    go_wp2
    go_ret
    exact ⟨rfl, bAlloc (Below.refl _ _) _⟩
set_option maxRecDepth 20000 in
set_option maxHeartbeats 8000000 in
/-- How great a list is. -/
theorem szExprS_at {w : World} {v : Value} {n : Nat} {E : Nat → Nat → Int} {N : Nat → List Int} (h : ExprsI w v n E N) (hl : ∀ i, (N i).length ≤ 9223372036854775807) (hn : n ≤ 9223372036854775807) :
    Calls Try.prog 13 #[v, .int .i64 1048576] w fun e w' => ∃ x : Int, e = .returned (.int .i64 x) ∧ (x = -1 ∨ 0 ≤ x) ∧ (0 ≤ x → n ≤ 1048576 ∧ ∀ i, i < n → (N i).length ≤ 1048576) ∧ Below w.heap.size w w' := by
  have H : Hid (ExprsI w v n E N) := h
  have HL : Hid (∀ i, (N i).length ≤ 9223372036854775807) := hl
  obtain ⟨a, c, rfl, _⟩ := h
  clear hl
  have hw : IntKind.i64.wrap (1048576 - (n : Int)) = 1048576 - (n : Int) := by rw [IntKind.wrap_i64]; omega
  by_cases h0 : 1048576 - (n : Int) < 0
  · go_enter Try.func13, Try.ntmps13
    go_wp2
    go_ret
    exact ⟨_, rfl, .inl rfl, fun h => absurd h (by simp), Below.refl _ _⟩
  · have HN : Hid (n ≤ 1048576) := by show _ ≤ _; omega
    go_enter Try.func13, Try.ntmps13
    go_wp2
    go_loopw [1, 5] (fun l i w' => ∃ (k : Nat) (x : Int), k ≤ n ∧ i = .int .i64 (k : Int) ∧ l = .int .i64 x ∧ 0 ≤ x ∧ x ≤ 1048576 ∧ (∀ i, i < k → (N i).length ≤ 1048576) ∧ Below w.heap.size w w') (fun _ i _ => n - (intOf i).toNat)
    case atStart => exact ⟨0, 1048576 - (n : Int), by omega, rfl, rfl, by omega, by omega, fun i hi => absurd hi (by omega), Below.refl _ _⟩
    case round =>
      obtain ⟨k, x, hk, rfl, rfl, hx0, hx1, hA, hb⟩ := hrel
      have HA : Hid (∀ i, i < k → (N i).length ≤ 1048576) := hA
      have HB : Hid (Below w.heap.size w wr) := hb
      clear hA hb
      by_cases hlt : (k : Int) < (n : Int)
      · have L : k < n := by omega
        obtain ⟨o, off, xa, xc, rfl, ho, ⟨p0, p1, p2, p3, p4, p5, p6⟩, _⟩ := (H.out.keep HB.out).at L
        have CS : Hid (Calls Try.prog 23 #[.agg #[.int .i64 (E k 0), .int .i64 (E k 1), .int .i64 (E k 2), .int .i64 (E k 3), .int .i64 (E k 4), .int .i64 (E k 5), .slice xa (N k).length xc], .int .i64 x] wr fun e w' => e = .returned (.int .i64 (szV (N k).length x)) ∧ Below wr.heap.size wr w') := szExpr_at (E k) xa (N k).length xc x wr hx0 hx1 (HL.out k)
        have e0 : szV (N k).length x = -1 ∨ (0 ≤ szV (N k).length x ∧ szV (N k).length x ≤ 1048576 ∧ (N k).length ≤ 1048576) := by
          unfold szV
          split
          · exact .inl rfl
          · refine .inr ⟨?_, ?_, ?_⟩ <;> omega
        have NX : Hid ((N k).length ≤ 1048576 → ∀ i, i < k + 1 → (N i).length ≤ 1048576) := fun h i hi => by
          by_cases e : i = k
          · rw [e]; exact h
          · exact HA.out i (by omega)
        clear ho
        generalize szV (N k).length x = z at *
        rcases e0 with rfl | ⟨z0, z1, z2⟩
        · clear NX
          generalize (N k).length = sl at *
          generalize E k 0 = q0 at *
          generalize E k 1 = q1 at *
          generalize E k 2 = q2 at *
          generalize E k 3 = q3 at *
          generalize E k 4 = q4 at *
          generalize E k 5 = q5 at *
          go_wp2_with fail
          refine CS.out.mono ?_
          rintro r w2 ⟨rfl, hb⟩
          have B2 : Hid (Below w.heap.size w w2) := bTrans HB.out hb
          clear hb
          go_wp2
          go_ret
          exact ⟨_, rfl, .inl rfl, fun h => absurd h (by simp), B2.out⟩
        · have NY : Hid (∀ i, i < k + 1 → (N i).length ≤ 1048576) := NX.out z2
          have zn : ¬ z < 0 := by omega
          clear NX z2
          generalize (N k).length = sl at *
          generalize E k 0 = q0 at *
          generalize E k 1 = q1 at *
          generalize E k 2 = q2 at *
          generalize E k 3 = q3 at *
          generalize E k 4 = q4 at *
          generalize E k 5 = q5 at *
          go_wp2_with fail
          refine CS.out.mono ?_
          rintro r w2 ⟨rfl, hb⟩
          have B2 : Hid (Below w.heap.size w w2) := bTrans HB.out hb
          clear hb
          have hnn := HN.out
          go_wp2
          go_roundw
          case rel => exact ⟨k + 1, z, by omega, by go_num, rfl, z0, z1, NY.out, B2.out⟩
          case measure => simp [intOf]; omega
      · obtain rfl : k = n := by omega
        go_wp2
        go_ret
        exact ⟨_, rfl, .inr hx0, fun _ => ⟨HN.out, HA.out⟩, HB.out⟩
end Go.Proofs.Ytpmcipnookjmgaa
namespace Go.Proofs.Ytpmcipnookjmgaa
open Go.RowKit Go.ChangeShapes Go.WideShapes
set_option linter.unusedVariables false
set_option linter.unusedSimpArgs false
theorem trod_field_expr {H : Type} {enc : TypeId × Value → H} {P : Program} {W : World} {base : Nat} {sp : Nat → Bool} {held : Bool} {n : Nat} {t : TypeId} {cs : List Value} {x : DataW H × List MemPlace} {fs : Array Field} (ht : P.underlying t = some (.struct fs)) (h : DataW.trod enc P W base sp held n t cs = some x) {j : Nat} {f : Field} (hj : fs[j]? = some f) :
    ∃ m y, DataW.trod enc P W base sp held m f.type ((cs.drop f.offset).take (P.cellsOf f.type)) = some y := by
  obtain ⟨xs, m, _, rfl, hl, hlen, hf⟩ := DataW.trod_struct ht h
  have hj' : j < fs.size := (Array.getElem?_eq_some_iff.1 hj).1
  exact ⟨m, xs[j]'(by omega), by rw [hf j f hj]; exact List.getElem?_eq_getElem (by omega)⟩
theorem trod_int_expr {H : Type} {enc : TypeId × Value → H} {W : World} {base : Nat} {held : Bool} {n : Nat} {v : Value} {y : DataW H × List MemPlace} (h : DataW.trod enc Try.prog W base (fun _ => true) held n 3 [v] = some y) : ∃ a : Int, v = .int .i64 a := by
  obtain ⟨a, ea, _, _⟩ := DataW.trod_int Try.underlying3 h
  simp at ea
  exact ⟨a, ea⟩
theorem one_expr {H : Type} {enc : TypeId × Value → H} {W : World} {base : Nat} {held : Bool} {n : Nat} {cs : List Value} {y : DataW H × List MemPlace} (hl : cs.length = 7) (h : DataW.trod enc Try.prog W base (fun _ => true) held n 56 cs = some y) :
    ∃ (e : Nat → Int) (x : Value) (s : List Int), cs = [.int .i64 (e 0), .int .i64 (e 1), .int .i64 (e 2), .int .i64 (e 3), .int .i64 (e 4), .int .i64 (e 5), x] ∧ IntsI W x s ∧ s.length ≤ 9223372036854775807 := by
  have c1 : Try.prog.cellsOf 3 = 1 := by kernel_rfl
  have c2 : Try.prog.cellsOf 54 = 3 := by kernel_rfl
  have c3 : Try.prog.cellsOf 42 = 1 := by kernel_rfl
  match cs, hl with
  | [v0, v1, v2, v3, v4, v5, v6], _ =>
    obtain ⟨m0, y0, g0⟩ := trod_field_expr (j := 0) Try.underlying56 h rfl
    obtain ⟨m1, y1, g1⟩ := trod_field_expr (j := 1) Try.underlying56 h rfl
    obtain ⟨m2, y2, g2⟩ := trod_field_expr (j := 2) Try.underlying56 h rfl
    obtain ⟨m3, y3, g3⟩ := trod_field_expr (j := 3) Try.underlying56 h rfl
    obtain ⟨m4, y4, g4⟩ := trod_field_expr (j := 4) Try.underlying56 h rfl
    simp [c1] at g0 g1 g2
    simp [c2] at g3
    simp [c3] at g4
    obtain ⟨e0, rfl⟩ := trod_int_expr g0
    obtain ⟨e1, rfl⟩ := trod_int_expr g1
    obtain ⟨e2, rfl⟩ := trod_int_expr g2
    obtain ⟨n0, z0, k0⟩ := trod_field_expr (j := 0) Try.underlying54 g3 rfl
    obtain ⟨n1, z1, k1⟩ := trod_field_expr (j := 1) Try.underlying54 g3 rfl
    obtain ⟨n2, z2, k2⟩ := trod_field_expr (j := 2) Try.underlying54 g3 rfl
    simp [c1] at k0 k1 k2
    obtain ⟨e3, rfl⟩ := trod_int_expr k0
    obtain ⟨e4, rfl⟩ := trod_int_expr k1
    obtain ⟨e5, rfl⟩ := trod_int_expr k2
    obtain ⟨s, i1, b1⟩ := cell_ints g4
    exact ⟨fun j => if j = 0 then e0 else if j = 1 then e1 else if j = 2 then e2 else if j = 3 then e3 else if j = 4 then e4 else e5, v6, s, by simp, i1, b1⟩
theorem cell_exprs {H : Type} {enc : TypeId × Value → H} {W : World} {base : Nat} {held : Bool} {n : Nat} {c : Value} {y : DataW H × List MemPlace} (h : DataW.trod enc Try.prog W base (fun _ => true) held n 22 [c] = some y) :
    ∃ (n : Nat) (E : Nat → Nat → Int) (N : Nat → List Int), ExprsI W c n E N ∧ n ≤ 9223372036854775807 ∧ (∀ i, (N i).length ≤ 9223372036854775807) ∧ ∀ i, n ≤ i → N i = [] := by
  have c3 : Try.prog.cellsOf 56 = 7 := by kernel_rfl
  rcases Deep.open_slice Try.underlying22 h with ⟨hcs, _⟩ | ⟨a, len, cap, m, k, DD, Pl, hcs, _, hl, hm, hmm, _, hx⟩
  · simp at hcs
    subst hcs
    exact ⟨0, fun _ _ => 0, fun _ => [], ⟨_, _, rfl, .inl rfl⟩, by omega, by simp, by simp⟩
  · simp at hcs
    subst hcs
    have hlm : len ≤ m := by rw [hmm]; simpa using hl
    have each : ∀ i, ∃ q : (Nat → Int) × Value × List Int, (i < len → (W.cell? (a.add (i * 7)) = some (.int .i64 (q.1 0)) ∧ W.cell? (a.add (i * 7 + 1)) = some (.int .i64 (q.1 1)) ∧ W.cell? (a.add (i * 7 + 2)) = some (.int .i64 (q.1 2)) ∧ W.cell? (a.add (i * 7 + 3)) = some (.int .i64 (q.1 3)) ∧ W.cell? (a.add (i * 7 + 4)) = some (.int .i64 (q.1 4)) ∧ W.cell? (a.add (i * 7 + 5)) = some (.int .i64 (q.1 5)) ∧ W.cell? (a.add (i * 7 + 6)) = some q.2.1) ∧ IntsI W q.2.1 q.2.2) ∧ q.2.2.length ≤ 9223372036854775807 ∧ (len ≤ i → q.2.2 = []) := by
      intro i
      by_cases hi : i < len
      · obtain ⟨cs', h1, h2⟩ := hx i (by omega)
        rw [c3] at h1
        obtain ⟨_, hlen, hcell⟩ := World.cells?_some h1
        obtain ⟨e, x, s, rfl, i1, b1⟩ := one_expr hlen h2
        have e0 := hcell 0 (by omega)
        have e1 := hcell 1 (by omega)
        have e2 := hcell 2 (by omega)
        have e3 := hcell 3 (by omega)
        have e4 := hcell 4 (by omega)
        have e5 := hcell 5 (by omega)
        have e6 := hcell 6 (by omega)
        rw [Deep.add_add] at e0 e1 e2 e3 e4 e5 e6
        exact ⟨(e, x, s), fun _ => ⟨⟨by simpa using e0, by simpa using e1, by simpa using e2, by simpa using e3, by simpa using e4, by simpa using e5, by simpa using e6⟩, i1⟩, b1, fun h => absurd h (by omega)⟩
      · exact ⟨(fun _ => 0, undef, []), fun h => absurd h hi, by simp, fun _ => rfl⟩
    have ⟨q, hq⟩ := Classical.axiomOfChoice each
    refine ⟨len, fun i => (q i).1, fun i => (q i).2.2, ⟨_, _, rfl, ?_⟩, by unfold maxLen at hm; omega, fun i => (hq i).2.1, fun i hi => (hq i).2.2 hi⟩
    by_cases h0 : len = 0
    · exact .inl h0
    · obtain ⟨ab, off, spot⟩ := a
      have hc := ((hq 0).1 (by omega)).1.1
      have hspot : spot = none := by simpa [Addr.add] using World.cell?_spot hc
      subst hspot
      have hadd : ∀ k, (⟨ab, off, none⟩ : Addr).add k = ⟨ab, off + k, none⟩ := fun k => by unfold Addr.add; split <;> simp_all
      refine .inr ⟨ab, off, fun i => (q i).2.1, rfl, ?_, fun i hi => ?_⟩
      · by_cases hb : ab < W.heap.size
        · exact hb
        · have : W.heap[ab]? = none := Array.getElem?_eq_none (by omega)
          simp [Addr.add, World.cell?, this] at hc
      · obtain ⟨⟨q0, q1, q2, q3, q4, q5, q6⟩, qz⟩ := (hq i).1 hi
        rw [hadd] at q0 q1 q2 q3 q4 q5 q6
        exact ⟨⟨q0, by rw [Nat.add_assoc]; exact q1, by rw [Nat.add_assoc]; exact q2, by rw [Nat.add_assoc]; exact q3, by rw [Nat.add_assoc]; exact q4, by rw [Nat.add_assoc]; exact q5, by rw [Nat.add_assoc]; exact q6⟩, qz⟩
end Go.Proofs.Ytpmcipnookjmgaa
namespace Go.Proofs.Ytpmcipnookjmgaa
open Go.RowKit Go.ChangeShapes Go.WideShapes
set_option linter.unusedVariables false
set_option linter.unusedSimpArgs false
set_option maxRecDepth 20000 in
set_option maxHeartbeats 4000000 in
theorem szTree_at {w : World} {v : Value} {n : Nat} {E : Nat → Nat → Int} {N : Nat → List Int} (h : ExprsI w v n E N) (hl : ∀ i, (N i).length ≤ 9223372036854775807) (hn : n ≤ 9223372036854775807) :
    Calls Try.prog 4 #[.agg #[v], .int .i64 1048576] w fun e w' => ∃ x : Int, e = .returned (.int .i64 x) ∧ (x = -1 ∨ 0 ≤ x) ∧ (0 ≤ x → n ≤ 1048576 ∧ ∀ i, i < n → (N i).length ≤ 1048576) ∧ Below w.heap.size w w' := by
  have CS : Hid (∀ W, Below w.heap.size w W → Calls Try.prog 13 #[v, .int .i64 1048576] W fun e w' => ∃ x : Int, e = .returned (.int .i64 x) ∧ (x = -1 ∨ 0 ≤ x) ∧ (0 ≤ x → n ≤ 1048576 ∧ ∀ i, i < n → (N i).length ≤ 1048576) ∧ Below W.heap.size W w') := fun W hb => szExprS_at (h.keep hb) hl hn
  clear hl hn
  obtain ⟨a, c, rfl, _⟩ := h
  go_enter Try.func4, Try.ntmps4
  go_wp2_with fail
  refine (CS.out _ one_below).mono ?_
  rintro r w2 ⟨x, rfl, hx0, hx, hb⟩
  have B2 : Hid (Below w.heap.size w w2) := bTrans one_below hb
  have HX : Hid (0 ≤ x → n ≤ 1048576 ∧ ∀ i, i < n → (N i).length ≤ 1048576) := hx
  clear hb hx
  rcases hx0 with rfl | hx0
  · go_wp2
    go_ret
    exact ⟨_, rfl, .inl rfl, fun h => absurd h (by simp), B2.out⟩
  · have e1 : ¬ x < 0 := by omega
    go_wp2
    go_ret
    exact ⟨_, rfl, .inr hx0, HX.out, B2.out⟩
theorem tree_loaded {w : World} {g : Nat} {x : Value} (h : w.heap[g]? = some (.cells #[x] 31 (0, 0))) : (loadVar 31 ⟨g, 0, none⟩).run Try.prog w = .ok (.agg #[x]) w := by
  have c0 : w.cell? ⟨g, 0, none⟩ = some x := cell_at h rfl
  simp [loadVar, go_sem, c0]
theorem results_tree {fn : Func} {p : Tmp} (h : fn.results = #[.cell p 31]) (tmps : Array Value) (w : World) (g : Nat) (x : Value) (hp : tmps.getD p undef = .pointer (some ⟨g, 0, none⟩))
    (hg : w.heap[g]? = some (.cells #[x] 31 (0, 0))) : (results fn tmps).run Try.prog w = .ok (.agg #[x]) w := by
  have e : (asAddr (.pointer (some ⟨g, 0, none⟩))).run Try.prog w = .ok ⟨g, 0, none⟩ w := by simp [asAddr]
  have l := tree_loaded hg
  have hp' : tmps[p]?.getD undef = .pointer (some ⟨g, 0, none⟩) := by simpa using hp
  simp [results, h, hp', e, l, Sem.run_bind, Result.andThen]
set_option maxRecDepth 20000 in
set_option maxHeartbeats 4000000 in
theorem toTree_at {w : World} {v : Value} {n : Nat} {E : Nat → Nat → Int} {N : Nat → List Int} (h : ExprsI w v n E N) (hl : ∀ i, (N i).length ≤ 1048576) (hn : n ≤ 1048576) :
    Calls Try.prog 6 #[.agg #[v]] w fun e w' => ∃ (a' : Option Addr) (c' : Nat), e = .returned (.agg #[.slice a' n c']) ∧ ExprsI w' (.slice a' n c') n E N ∧ Below w.heap.size w w' := by
  have CS : Hid (∀ W, Below w.heap.size w W → Calls Try.prog 15 #[v] W fun e w' => ∃ v', e = .returned v' ∧ ExprsI w' v' n E N ∧ Below W.heap.size W w' ∧ ∀ W', Win 0 W.heap.size w' W' → ExprsI W' v' n E N) := fun W hb => toExprS_at (h.keep hb) hl hn
  clear hl hn
  obtain ⟨a, c, rfl, _⟩ := h
  go_enter Try.func6, Try.ntmps6
  go_wp2_with fail
  refine (CS.out _ (bAlloc (bAlloc (bAlloc (Below.refl _ _) _) _) _)).mono ?_
  rintro r w2 ⟨v2, rfl, hv, hb, hwin⟩
  have EX : Hid (∀ W', Win 0 (w.heap.size + 1 + 1 + 1) w2 W' → ExprsI W' v2 n E N) := fun W' hw => hwin W' (by simpa using hw)
  have q := expr_three w (.cells #[.slice a n c] 24) (.cells #[.slice none 0 0] 31) (.cells #[.slice none 0 0] 31)
  have R2 : Hid (w2.heap[w.heap.size + 1]? = some (.cells #[.slice none 0 0] 31 (0, 0))) := by show _ = _; rw [hb.block _ (by simp)]; exact q.2.1
  have O2 : Hid (w2.heap[w.heap.size + 1 + 1]? = some (.cells #[.slice none 0 0] 31 (0, 0))) := by show _ = _; rw [hb.block _ (by simp)]; exact q.2.2
  have B2 : Hid (Below w.heap.size w w2) := bTrans (bAlloc (bAlloc (bAlloc (Below.refl _ _) _) _) _) hb
  obtain ⟨a2, c2, rfl, hw⟩ := hv
  clear hb q hwin
  have r0 : w2.cell? ⟨w.heap.size + 1, 0, none⟩ = some (.slice none 0 0) := cell_at R2.out rfl
  have o0 : w2.cell? ⟨w.heap.size + 1 + 1, 0, none⟩ = some (.slice none 0 0) := cell_at O2.out rfl
  have f0 : w2.frozen? ⟨w.heap.size + 1, 0, none⟩ = false := free_at R2.out 0
  have g0 : w2.frozen? ⟨w.heap.size + 1 + 1, 0, none⟩ = false := free_at O2.out 0
  have HR : Hid (((w2.setCell ⟨w.heap.size + 1 + 1, 0, none⟩ (.slice a2 n c2)).setCell ⟨w.heap.size + 1, 0, none⟩ (.slice a2 n c2)).heap[w.heap.size + 1]? = some (.cells #[.slice a2 n c2] 31 (0, 0))) := by
    have e1 : (w2.setCell ⟨w.heap.size + 1 + 1, 0, none⟩ (.slice a2 n c2)).heap[w.heap.size + 1]? = some (.cells #[.slice none 0 0] 31 (0, 0)) := by
      rw [heap_setCell_other _ _ _ _ (by show w.heap.size + 1 ≠ w.heap.size + 1 + 1; omega)]; exact R2.out
    have e2 := heap_setCell_same _ (w.heap.size + 1) 0 _ _ (.slice a2 n c2) e1
    show _ = _
    simpa using e2
  clear hw
  go_wp2
  refine bodyPost_ret (results_tree Try.results6 _ _ (w.heap.size + 1) _ rfl HR.out) rfl ?_
  refine ⟨_, _, rfl, ?_, below_setCell (below_setCell B2.out (by omega) _ _) (by omega) _ _⟩
  exact EX.out _ (((Win.refl _ _ _).setCell (by omega) (by omega) _ _).setCell (by omega) (by omega) _ _)
set_option maxRecDepth 20000 in
set_option maxHeartbeats 4000000 in
theorem eqTree_same {w : World} {v u : Value} {n : Nat} {E : Nat → Nat → Int} {N : Nat → List Int} (h : ExprsI w v n E N) (k : ExprsI w u n E N) (hl : ∀ i, (N i).length ≤ 1048576) (hn : n ≤ 1048576) :
    Calls Try.prog 9 #[.agg #[v], .agg #[u]] w fun r w' => r = .returned (.bool true) ∧ Below w.heap.size w w' := by
  have CS : Hid (∀ W, Below w.heap.size w W → Calls Try.prog 19 #[v, u] W fun r w' => r = .returned (.bool true) ∧ Below W.heap.size W w') := fun W hb => eqExprS_same (h.keep hb) (k.keep hb) hl hn
  clear hl hn
  obtain ⟨a, c, rfl, _⟩ := h
  obtain ⟨a', c', rfl, _⟩ := k
  go_enter Try.func9, Try.ntmps9
  go_wp2_with fail
  refine (CS.out _ two_below).mono ?_
  rintro r w2 ⟨rfl, hb⟩
  have B2 : Hid (Below w.heap.size w w2) := bTrans two_below hb
  clear hb
  go_wp2
  go_ret
  exact ⟨rfl, B2.out⟩
theorem open_agg1 {H : Type} {enc : TypeId × Value → H} {P : Program} {w : World} {base : Nat} {spare : Nat → Bool} {held : Bool} {r : Reach} {b0 : Nat} {t : TypeId} {f0 : Field} {v : Value} {d : DataW H} {p : List MemPlace} (hs : P.underlying t = some (.struct #[f0])) (hone : Deep.oneCellFields P #[f0] = true) (hC : P.cellsOf t = 1)
    (hv : Value.okWide P w r b0 t v) (h : DataW.Trod enc P w base spare held t v d p) :
    ∃ (v0 : Value) (y0 : DataW H × List MemPlace) (n : Nat), v = .agg #[v0] ∧ d = .agg [y0.1] ∧ p = y0.2 ∧ DataW.trod enc P w base spare held n f0.type [v0] = some y0 := by
  obtain ⟨cs, rfl, hsz⟩ := okWide_struct hs hv
  obtain ⟨c0, rfl⟩ : ∃ c0, cs = #[c0] := by
    have h1 := hsz.trans hC
    obtain ⟨l⟩ := cs
    match l, h1 with
    | [c0], _ => exact ⟨c0, rfl⟩
  obtain ⟨fuel, hf⟩ := h
  obtain ⟨y0, n, hx, _, h0⟩ := trod_struct1 hs hf
  obtain ⟨o0, k0⟩ := Deep.hone_of hone 0 f0 rfl
  simp only [Prod.mk.injEq] at hx
  exact ⟨c0, y0, n, rfl, hx.1, hx.2, by simpa [Value.cells, o0, k0] using h0⟩
end Go.Proofs.Ytpmcipnookjmgaa
namespace Go.Proofs.Ytpmcipnookjmgaa
open Go.RowKit
set_option linter.unusedVariables false
set_option linter.unusedSimpArgs false
/-- A block of one cell. -/
def Box1 (w : World) (g : Nat) (x : Value) (t : TypeId) : Prop := w.heap[g]? = some (.cells #[x] t (0, 0))
section
variable {w w' : World} {g B C : Nat} {x : Value} {t : TypeId}
theorem Box1.lt (h : Box1 w g x t) : g < w.heap.size := lt_of_heapA h
theorem Box1.keep (h : Box1 w g x t) (hb : Below w.heap.size w w') : Box1 w' g x t := by unfold Box1; rw [hb.block g h.lt]; exact h
theorem Box1.win (h : Box1 w g x t) (hw : Win B C w w') (hd : g < B ∨ C ≤ g) : Box1 w' g x t := by unfold Box1; rw [hw.block g h.lt hd]; exact h
theorem Box1.c0 (h : Box1 w g x t) : w.cell? ⟨g, 0, none⟩ = some x := cell_at h rfl
theorem box1_new (w : World) (x : Value) (t : TypeId) : Box1 (w.alloc (.cells #[x] t)) w.heap.size x t := heap_alloc_new w _
end
set_option maxRecDepth 20000 in
set_option maxHeartbeats 4000000 in
theorem toTree_own {w : World} {v : Value} {n : Nat} {E : Nat → Nat → Int} {N : Nat → List Int} (h : ExprsI w v n E N) (hl : ∀ i, (N i).length ≤ 1048576) (hn : n ≤ 1048576) :
    Calls Try.prog 6 #[.agg #[v]] w fun e w' => ∃ o, e = .returned (.agg #[.slice (some ⟨o, 0, none⟩) n n]) ∧ w.heap.size ≤ o ∧ OwnExprsI o w'.heap.size n n w' E N ∧ Below w.heap.size w w' := by
  have CS : Hid (∀ W, Below w.heap.size w W → Calls Try.prog 15 #[v] W fun e w' => ∃ o, e = .returned (.slice (some ⟨o, 0, none⟩) n n) ∧ W.heap.size ≤ o ∧ OwnExprsI o w'.heap.size n n w' E N ∧ Below W.heap.size W w') := fun W hb => toExprS_own (h.keep hb) hl hn
  clear hl hn
  obtain ⟨a, c, rfl, _⟩ := h
  go_enter Try.func6, Try.ntmps6
  go_wp2_with fail
  refine (CS.out _ (bAlloc (bAlloc (bAlloc (Below.refl _ _) _) _) _)).mono ?_
  rintro r w2 ⟨o, rfl, ho, hO, hb⟩
  have O9 : Hid (OwnExprsI o w2.heap.size n n w2 E N ∧ w.heap.size + 1 + 1 + 1 ≤ o) := ⟨hO, by simpa using ho⟩
  have q := expr_three w (.cells #[.slice a n c] 24) (.cells #[.slice none 0 0] 31) (.cells #[.slice none 0 0] 31)
  have R2 : Hid (w2.heap[w.heap.size + 1]? = some (.cells #[.slice none 0 0] 31 (0, 0))) := by show _ = _; rw [hb.block _ (by simp)]; exact q.2.1
  have O2 : Hid (w2.heap[w.heap.size + 1 + 1]? = some (.cells #[.slice none 0 0] 31 (0, 0))) := by show _ = _; rw [hb.block _ (by simp)]; exact q.2.2
  have B2 : Hid (Below w.heap.size w w2) := bTrans (bAlloc (bAlloc (bAlloc (Below.refl _ _) _) _) _) hb
  clear hb q hO ho
  have r0 : w2.cell? ⟨w.heap.size + 1, 0, none⟩ = some (.slice none 0 0) := cell_at R2.out rfl
  have o0 : w2.cell? ⟨w.heap.size + 1 + 1, 0, none⟩ = some (.slice none 0 0) := cell_at O2.out rfl
  have f0 : w2.frozen? ⟨w.heap.size + 1, 0, none⟩ = false := free_at R2.out 0
  have g0 : w2.frozen? ⟨w.heap.size + 1 + 1, 0, none⟩ = false := free_at O2.out 0
  have HR : Hid (((w2.setCell ⟨w.heap.size + 1 + 1, 0, none⟩ (.slice (some ⟨o, 0, none⟩) n n)).setCell ⟨w.heap.size + 1, 0, none⟩ (.slice (some ⟨o, 0, none⟩) n n)).heap[w.heap.size + 1]? = some (.cells #[.slice (some ⟨o, 0, none⟩) n n] 31 (0, 0))) := by
    have e1 : (w2.setCell ⟨w.heap.size + 1 + 1, 0, none⟩ (.slice (some ⟨o, 0, none⟩) n n)).heap[w.heap.size + 1]? = some (.cells #[.slice none 0 0] 31 (0, 0)) := by
      rw [heap_setCell_other _ _ _ _ (by show w.heap.size + 1 ≠ w.heap.size + 1 + 1; omega)]; exact R2.out
    have e2 := heap_setCell_same _ (w.heap.size + 1) 0 _ _ (.slice (some ⟨o, 0, none⟩) n n) e1
    show _ = _
    simpa using e2
  go_wp2
  refine bodyPost_ret (results_tree Try.results6 _ _ (w.heap.size + 1) _ rfl HR.out) rfl ?_
  refine ⟨o, rfl, by have := O9.out.2; omega, ?_, below_setCell (below_setCell B2.out (by omega) _ _) (by omega) _ _⟩
  simp only [size_setCell]
  exact O9.out.1.win (B := w.heap.size) (C := w.heap.size + 1 + 1 + 1) (((Win.refl _ _ _).setCell (by omega) (by omega) _ _).setCell (by omega) (by omega) _ _) (.inl O9.out.2)
set_option maxRecDepth 20000 in
set_option maxHeartbeats 4000000 in
/-- A tree is marked. -/
theorem markTree_at {o hi n : Nat} {w : World} {E : Nat → Nat → Int} {N : Nat → List Int} (h : OwnExprsI o hi n n w E N) (hl : ∀ i, (N i).length ≤ 1048576) (hn : n ≤ 1048576) (k0 : Int) (p1 : 0 ≤ k0) (p2 : k0 ≤ 1099511627776) :
    Calls Try.prog 10 #[.agg #[.slice (some ⟨o, 0, none⟩) n n], .int .i64 k0] w fun e w' => e = .returned (.int .i64 (k0 + (totN 6 N n : Int))) ∧ Win o hi w w' := by
  have CM : Hid (Calls Try.prog 20 #[.slice (some ⟨o, 0, none⟩) n n, .int .i64 k0] (w.alloc (.cells #[.slice (some ⟨o, 0, none⟩) n n] 31)) fun e w' => e = .returned (.int .i64 (k0 + (totN 6 N n : Int))) ∧ Win o hi w w') := by
    refine (markExprS_at (h.keep one_below) hl hn k0 p1 p2).mono ?_
    rintro e w' ⟨rfl, _, hw⟩
    exact ⟨rfl, Win.trans (Below.win one_below) hw⟩
  clear h hl
  generalize totN 6 N n = z at *
  go_enter Try.func10, Try.ntmps10
  go_wp2_with fail
  refine CM.out.mono ?_
  rintro r w2 ⟨rfl, hw⟩
  have HW : Hid (Win o hi w w2) := hw
  clear hw CM
  go_wp2
  go_ret
  exact ⟨rfl, HW.out⟩
end Go.Proofs.Ytpmcipnookjmgaa
namespace Go.Proofs.Ytpmcipnookjmgaa
/-- The numbers of the instruction of a node: Op, A and the three of F. -/
def insOf (e : Nat → Int) (j : Nat) : Int :=
  if j = 0 then e 0
  else if j = 1 then (if e 0 = 2 ∨ e 0 = 3 then e 1 else 0)
  else (if e 0 = 4 ∨ e 0 = 5 then e (j + 1) else 0)
def numsOf (e : Nat → Int) (l : List Int) : List Int := if e 0 = 1 then l else []
def insE (E : Nat → Nat → Int) (i : Nat) : Nat → Int := insOf (E i)
def insN (E : Nat → Nat → Int) (N : Nat → List Int) (i : Nat) : List Int := numsOf (E i) (N i)
theorem treeB_kind {n : Nat} {E : Nat → Nat → Int} {N : Nat → List Int} (h : treeB n E N = true) : n ≤ 60 ∧ ∀ i, i < n → (E i 0 = 1 ∨ E i 0 = 2 ∨ E i 0 = 3 ∨ E i 0 = 4 ∨ E i 0 = 5) ∧ (N i).length ≤ 300 := by
  unfold treeB at h
  simp only [Bool.and_eq_true, decide_eq_true_eq, List.all_eq_true, List.mem_range] at h
  refine ⟨h.1.2, fun i hi => ?_⟩
  have q := (h.2.1 i hi).1
  unfold nodeB at q
  split at q
  · rename_i e
    simp only [Bool.and_eq_true, numsB, decide_eq_true_eq] at q
    exact ⟨.inl e, q.2.1.2⟩
  · split at q
    · rename_i e
      simp only [Bool.and_eq_true, decide_eq_true_eq] at q
      exact ⟨.inr (.inl e), by omega⟩
    · split at q
      · rename_i e
        simp only [Bool.and_eq_true, decide_eq_true_eq] at q
        exact ⟨.inr (.inr (.inl e)), by omega⟩
      · split at q
        · rename_i e
          simp only [Bool.and_eq_true, decide_eq_true_eq] at q
          exact ⟨.inr (.inr (.inr (.inl e))), by omega⟩
        · split at q
          · rename_i e
            simp only [Bool.and_eq_true, decide_eq_true_eq] at q
            exact ⟨.inr (.inr (.inr (.inr e))), by omega⟩
          · exact absurd q (by decide)
theorem numsOf_len {e : Nat → Int} {l : List Int} {m : Nat} (h : l.length ≤ m) : (numsOf e l).length ≤ m := by
  unfold numsOf; split
  · exact h
  · simp
end Go.Proofs.Ytpmcipnookjmgaa
namespace Go.Proofs.Ytpmcipnookjmgaa
open Go.RowKit
set_option linter.unusedVariables false
set_option linter.unusedSimpArgs false
theorem instr_loaded {w : World} {g : Nat} {x0 x1 x2 x3 x4 x5 : Value} (h : w.heap[g]? = some (.cells #[x0, x1, x2, x3, x4, x5] 46 (0, 0))) : (loadVar 46 ⟨g, 0, none⟩).run Try.prog w = .ok (.agg #[x0, x1, x2, x3, x4, x5]) w := by
  have c0 : w.cell? ⟨g, 0, none⟩ = some x0 := cell_at h rfl
  have c1 : w.cell? ⟨g, 1, none⟩ = some x1 := cell_at h rfl
  have c2 : w.cell? ⟨g, 2, none⟩ = some x2 := cell_at h rfl
  have c3 : w.cell? ⟨g, 3, none⟩ = some x3 := cell_at h rfl
  have c4 : w.cell? ⟨g, 4, none⟩ = some x4 := cell_at h rfl
  have c5 : w.cell? ⟨g, 5, none⟩ = some x5 := cell_at h rfl
  simp [loadVar, go_sem, c0, c1, c2, c3, c4, c5]
theorem results_instr {fn : Func} {p : Tmp} (h : fn.results = #[.cell p 46]) (tmps : Array Value) (w : World) (g : Nat) (x0 x1 x2 x3 x4 x5 : Value) (hp : tmps.getD p undef = .pointer (some ⟨g, 0, none⟩))
    (hg : w.heap[g]? = some (.cells #[x0, x1, x2, x3, x4, x5] 46 (0, 0))) : (results fn tmps).run Try.prog w = .ok (.agg #[x0, x1, x2, x3, x4, x5]) w := by
  have e : (asAddr (.pointer (some ⟨g, 0, none⟩))).run Try.prog w = .ok ⟨g, 0, none⟩ w := by simp [asAddr]
  have l := instr_loaded hg
  have hp' : tmps[p]?.getD undef = .pointer (some ⟨g, 0, none⟩) := by simpa using hp
  simp [results, h, hp', e, l, Sem.run_bind, Result.andThen]
theorem instr_stored {w : World} {g : Nat} {x0 x1 x2 x3 x4 x5 y0 y1 y2 y3 y4 y5 : Value} {t : TypeId} (h : w.heap[g]? = some (.cells #[x0, x1, x2, x3, x4, x5] t (0, 0))) : ((((((w.setCell ⟨g, 0, none⟩ y0).setCell ⟨g, 1, none⟩ y1).setCell ⟨g, 2, none⟩ y2).setCell ⟨g, 3, none⟩ y3).setCell ⟨g, 4, none⟩ y4).setCell ⟨g, 5, none⟩ y5).heap[g]? = some (.cells #[y0, y1, y2, y3, y4, y5] t (0, 0)) := by
  have h0 := heap_setCell_same w g 0 _ _ y0 h
  have h1 := heap_setCell_same _ g 1 _ _ y1 h0
  have h2 := heap_setCell_same _ g 2 _ _ y2 h1
  have h3 := heap_setCell_same _ g 3 _ _ y3 h2
  have h4 := heap_setCell_same _ g 4 _ _ y4 h3
  have h5 := heap_setCell_same _ g 5 _ _ y5 h4
  simpa using h5
theorem instr_three (w : World) (A B C : Obj) : (((w.alloc A).alloc B).alloc C).heap[w.heap.size]? = some A ∧ (((w.alloc A).alloc B).alloc C).heap[w.heap.size + 1]? = some B ∧ (((w.alloc A).alloc B).alloc C).heap[w.heap.size + 1 + 1]? = some C := by
  have e1 := heap_alloc_new w A
  have e2 := heap_alloc_new (w.alloc A) B
  have e3 := heap_alloc_new ((w.alloc A).alloc B) C
  simp only [World.size_alloc] at e2 e3
  refine ⟨?_, ?_, e3⟩
  · rw [heap_alloc_old _ _ (by simp only [World.size_alloc]; omega), heap_alloc_old _ _ (by simp only [World.size_alloc]; omega)]; exact e1
  · rw [heap_alloc_old _ _ (by simp only [World.size_alloc]; omega)]; exact e2
/-- The first k of n are copied into block o. -/
def ToInsI (w0 : World) (o n k : Nat) (W : World) (E : Nat → Nat → Int) (N : Nat → List Int) : Prop :=
  ∃ (A : Array Value) (x : Nat → Value), W.heap[o]? = some (.cells A 46 (0, 0)) ∧ A.size = n * 6 ∧
    (∀ i, i < k → (A[i * 6]? = some (.int .i64 (E i 0)) ∧ A[i * 6 + 1]? = some (.int .i64 (E i 1)) ∧ A[i * 6 + 2]? = some (.int .i64 (E i 2)) ∧ A[i * 6 + 3]? = some (.int .i64 (E i 3)) ∧ A[i * 6 + 4]? = some (.int .i64 (E i 4)) ∧ A[i * 6 + 5]? = some (x i)) ∧ Piece (o + 1) W.heap.size W (x i) (N i)) ∧ Below o w0 W
section
variable {w0 W W' : World} {o n k : Nat} {E : Nat → Nat → Int} {N : Nat → List Int}
theorem ToInsI.lt (h : ToInsI w0 o n k W E N) : o < W.heap.size := by obtain ⟨A, _, h1, _⟩ := h; exact lt_of_heapA h1
theorem ToInsI.below (h : ToInsI w0 o n k W E N) : Below o w0 W := by obtain ⟨_, _, _, _, _, q⟩ := h; exact q
theorem ToInsI.keep (h : ToInsI w0 o n k W E N) (hb : Below W.heap.size W W') : ToInsI w0 o n k W' E N := by
  have hl := h.lt
  obtain ⟨A, x, h1, h2, h3, h4⟩ := h
  refine ⟨A, x, by rw [hb.block o hl]; exact h1, h2, fun i hi => ?_, h4.trans (hb.mono (Nat.le_of_lt hl))⟩
  obtain ⟨q1, q2⟩ := h3 i hi
  exact ⟨q1, (q2.keep hb).mono (Nat.le_refl _) hb.size⟩
theorem ToInsI.cells (h : ToInsI w0 o n k W E N) (hk : k < n) : ((∃ u, W.cell? ⟨o, k * 6, none⟩ = some u) ∧ (∃ u, W.cell? ⟨o, k * 6 + 1, none⟩ = some u) ∧ (∃ u, W.cell? ⟨o, k * 6 + 2, none⟩ = some u) ∧ (∃ u, W.cell? ⟨o, k * 6 + 3, none⟩ = some u) ∧ (∃ u, W.cell? ⟨o, k * 6 + 4, none⟩ = some u) ∧ (∃ u, W.cell? ⟨o, k * 6 + 5, none⟩ = some u)) ∧ W.frozen? ⟨o, k * 6, none⟩ = false ∧ W.frozen? ⟨o, k * 6 + 1, none⟩ = false ∧ W.frozen? ⟨o, k * 6 + 2, none⟩ = false ∧ W.frozen? ⟨o, k * 6 + 3, none⟩ = false ∧ W.frozen? ⟨o, k * 6 + 4, none⟩ = false ∧ W.frozen? ⟨o, k * 6 + 5, none⟩ = false := by
  obtain ⟨A, x, h1, h2, h3, h4⟩ := h
  have g : ∀ j, j < n * 6 → ∃ u, W.cell? ⟨o, j, none⟩ = some u := fun j hj => ⟨A[j]'(by omega), cell_at h1 (Array.getElem?_eq_getElem (by omega))⟩
  exact ⟨⟨g _ (by omega), g _ (by omega), g _ (by omega), g _ (by omega), g _ (by omega), g _ (by omega)⟩, free_at h1 _, free_at h1 _, free_at h1 _, free_at h1 _, free_at h1 _, free_at h1 _⟩
theorem ToInsI.put (h : ToInsI w0 o n k W E N) (hk : k < n) {x' : Value} (px : Piece (o + 1) W.heap.size W x' (N k)) :
    ToInsI w0 o n (k + 1) ((((((W.setCell ⟨o, k * 6, none⟩ (.int .i64 (E k 0))).setCell ⟨o, k * 6 + 1, none⟩ (.int .i64 (E k 1))).setCell ⟨o, k * 6 + 2, none⟩ (.int .i64 (E k 2))).setCell ⟨o, k * 6 + 3, none⟩ (.int .i64 (E k 3))).setCell ⟨o, k * 6 + 4, none⟩ (.int .i64 (E k 4))).setCell ⟨o, k * 6 + 5, none⟩ x') E N := by
  obtain ⟨A, x, h1, h2, h3, h4⟩ := h
  have e0 := heap_setCell_same W o (k * 6) _ _ (.int .i64 (E k 0)) h1
  have e1 := heap_setCell_same _ o (k * 6 + 1) _ _ (.int .i64 (E k 1)) e0
  have e2 := heap_setCell_same _ o (k * 6 + 2) _ _ (.int .i64 (E k 2)) e1
  have e3 := heap_setCell_same _ o (k * 6 + 3) _ _ (.int .i64 (E k 3)) e2
  have e4 := heap_setCell_same _ o (k * 6 + 4) _ _ (.int .i64 (E k 4)) e3
  have e5 := heap_setCell_same _ o (k * 6 + 5) _ _ x' e4
  have ww : Win o (o + 1) W ((((((W.setCell ⟨o, k * 6, none⟩ (.int .i64 (E k 0))).setCell ⟨o, k * 6 + 1, none⟩ (.int .i64 (E k 1))).setCell ⟨o, k * 6 + 2, none⟩ (.int .i64 (E k 2))).setCell ⟨o, k * 6 + 3, none⟩ (.int .i64 (E k 3))).setCell ⟨o, k * 6 + 4, none⟩ (.int .i64 (E k 4))).setCell ⟨o, k * 6 + 5, none⟩ x') := ((((((win_setCell _ _ _ _).trans (win_setCell _ _ _ _)).trans (win_setCell _ _ _ _)).trans (win_setCell _ _ _ _)).trans (win_setCell _ _ _ _)).trans (win_setCell _ _ _ _))
  have sz : ((((((W.setCell ⟨o, k * 6, none⟩ (.int .i64 (E k 0))).setCell ⟨o, k * 6 + 1, none⟩ (.int .i64 (E k 1))).setCell ⟨o, k * 6 + 2, none⟩ (.int .i64 (E k 2))).setCell ⟨o, k * 6 + 3, none⟩ (.int .i64 (E k 3))).setCell ⟨o, k * 6 + 4, none⟩ (.int .i64 (E k 4))).setCell ⟨o, k * 6 + 5, none⟩ x').heap.size = W.heap.size := by simp only [size_setCell]
  refine ⟨_, fun i => if i = k then x' else x i, e5, by simpa using h2, fun i hi => ?_, below_setCell (below_setCell (below_setCell (below_setCell (below_setCell (below_setCell (h4) (Nat.le_refl _) _ _) (Nat.le_refl _) _ _) (Nat.le_refl _) _ _) (Nat.le_refl _) _ _) (Nat.le_refl _) _ _) (Nat.le_refl _) _ _⟩
  rw [sz]
  by_cases e : i = k
  · rw [e]
    simp only [if_true]
    refine ⟨⟨?_, ?_, ?_, ?_, ?_, ?_⟩, px.win ww (.inr (Nat.le_refl _))⟩
    · rw [Array.getElem?_setIfInBounds, if_neg (by omega), Array.getElem?_setIfInBounds, if_neg (by omega), Array.getElem?_setIfInBounds, if_neg (by omega), Array.getElem?_setIfInBounds, if_neg (by omega), Array.getElem?_setIfInBounds, if_neg (by omega), Array.getElem?_setIfInBounds, if_pos rfl, if_pos (by omega)]
    · rw [Array.getElem?_setIfInBounds, if_neg (by omega), Array.getElem?_setIfInBounds, if_neg (by omega), Array.getElem?_setIfInBounds, if_neg (by omega), Array.getElem?_setIfInBounds, if_neg (by omega), Array.getElem?_setIfInBounds, if_pos rfl, if_pos (by simp only [Array.size_setIfInBounds]; omega)]
    · rw [Array.getElem?_setIfInBounds, if_neg (by omega), Array.getElem?_setIfInBounds, if_neg (by omega), Array.getElem?_setIfInBounds, if_neg (by omega), Array.getElem?_setIfInBounds, if_pos rfl, if_pos (by simp only [Array.size_setIfInBounds]; omega)]
    · rw [Array.getElem?_setIfInBounds, if_neg (by omega), Array.getElem?_setIfInBounds, if_neg (by omega), Array.getElem?_setIfInBounds, if_pos rfl, if_pos (by simp only [Array.size_setIfInBounds]; omega)]
    · rw [Array.getElem?_setIfInBounds, if_neg (by omega), Array.getElem?_setIfInBounds, if_pos rfl, if_pos (by simp only [Array.size_setIfInBounds]; omega)]
    · rw [Array.getElem?_setIfInBounds, if_pos rfl, if_pos (by simp only [Array.size_setIfInBounds]; omega)]
  · obtain ⟨⟨q0, q1, q2, q3, q4, q5⟩, qz⟩ := h3 i (by omega)
    simp only [if_neg e]
    refine ⟨⟨?_, ?_, ?_, ?_, ?_, ?_⟩, qz.win ww (.inr (Nat.le_refl _))⟩
    · rw [Array.getElem?_setIfInBounds, if_neg (by omega), Array.getElem?_setIfInBounds, if_neg (by omega), Array.getElem?_setIfInBounds, if_neg (by omega), Array.getElem?_setIfInBounds, if_neg (by omega), Array.getElem?_setIfInBounds, if_neg (by omega), Array.getElem?_setIfInBounds, if_neg (by omega)]; exact q0
    · rw [Array.getElem?_setIfInBounds, if_neg (by omega), Array.getElem?_setIfInBounds, if_neg (by omega), Array.getElem?_setIfInBounds, if_neg (by omega), Array.getElem?_setIfInBounds, if_neg (by omega), Array.getElem?_setIfInBounds, if_neg (by omega), Array.getElem?_setIfInBounds, if_neg (by omega)]; exact q1
    · rw [Array.getElem?_setIfInBounds, if_neg (by omega), Array.getElem?_setIfInBounds, if_neg (by omega), Array.getElem?_setIfInBounds, if_neg (by omega), Array.getElem?_setIfInBounds, if_neg (by omega), Array.getElem?_setIfInBounds, if_neg (by omega), Array.getElem?_setIfInBounds, if_neg (by omega)]; exact q2
    · rw [Array.getElem?_setIfInBounds, if_neg (by omega), Array.getElem?_setIfInBounds, if_neg (by omega), Array.getElem?_setIfInBounds, if_neg (by omega), Array.getElem?_setIfInBounds, if_neg (by omega), Array.getElem?_setIfInBounds, if_neg (by omega), Array.getElem?_setIfInBounds, if_neg (by omega)]; exact q3
    · rw [Array.getElem?_setIfInBounds, if_neg (by omega), Array.getElem?_setIfInBounds, if_neg (by omega), Array.getElem?_setIfInBounds, if_neg (by omega), Array.getElem?_setIfInBounds, if_neg (by omega), Array.getElem?_setIfInBounds, if_neg (by omega), Array.getElem?_setIfInBounds, if_neg (by omega)]; exact q4
    · rw [Array.getElem?_setIfInBounds, if_neg (by omega), Array.getElem?_setIfInBounds, if_neg (by omega), Array.getElem?_setIfInBounds, if_neg (by omega), Array.getElem?_setIfInBounds, if_neg (by omega), Array.getElem?_setIfInBounds, if_neg (by omega), Array.getElem?_setIfInBounds, if_neg (by omega)]; exact q5
theorem ToInsI.list (h : ToInsI w0 o n n W E N) : InsI W (.slice (some ⟨o, 0, none⟩) n n) n E N := by
  have hl := h.lt
  obtain ⟨A, x, h1, h2, h3, h4⟩ := h
  refine ⟨_, _, rfl, .inr ⟨o, 0, x, rfl, hl, fun i hi => ?_⟩⟩
  obtain ⟨⟨q0, q1, q2, q3, q4, q5⟩, qz⟩ := h3 i hi
  rw [Nat.zero_add]
  exact ⟨⟨cell_at h1 q0, cell_at h1 q1, cell_at h1 q2, cell_at h1 q3, cell_at h1 q4, cell_at h1 q5⟩, qz.intsI⟩
/-- It stands, whatever is turned below it. -/
theorem ToInsI.win (h : ToInsI w0 o n n W E N) (hw : Win 0 o W W') : InsI W' (.slice (some ⟨o, 0, none⟩) n n) n E N := by
  have hl := h.lt
  obtain ⟨A, x, h1, h2, h3, h4⟩ := h
  have h1' : W'.heap[o]? = some (.cells A 46 (0, 0)) := by rw [hw.block o hl (.inr (Nat.le_refl _))]; exact h1
  refine ⟨_, _, rfl, .inr ⟨o, 0, x, rfl, lt_of_heapA h1', fun i hi => ?_⟩⟩
  obtain ⟨⟨q0, q1, q2, q3, q4, q5⟩, qz⟩ := h3 i hi
  rw [Nat.zero_add]
  exact ⟨⟨cell_at h1' q0, cell_at h1' q1, cell_at h1' q2, cell_at h1' q3, cell_at h1' q4, cell_at h1' q5⟩, (qz.win hw (.inr (Nat.le_succ _))).intsI⟩
end
theorem info_instr9 : (Try.prog.info? 46).map (fun i => (i.zero, i.size, i.bytes)) = some (some (.agg #[.int .i64 0, .int .i64 0, .int .i64 0, .int .i64 0, .int .i64 0, .slice none 0 0]), 6, 64) := by kernel_rfl
theorem make_instrN (n : Nat) (hn : n ≤ 1048576) (w : World) (E : Nat → Nat → Int) (N : Nat → List Int) : ∃ w', (Instr.makeSlice 26 (.int .i64 (n : Int)) (.int .i64 (n : Int))).run Try.prog w = .ok (.slice (some ⟨w.heap.size, 0, none⟩) n n) w' ∧ ToInsI w w.heap.size n 0 w' E N := by
  have hi := info_instr9
  cases hq : Try.prog.info? 46 with
  | none => rw [hq] at hi; cases hi
  | some i =>
    rw [hq] at hi
    simp at hi
    obtain ⟨z1, z2, z3⟩ := hi
    have q := run_make (P := Try.prog) w 26 46 i _ Try.underlying26 hq z1 .i64 .i64 (n : Int) (n : Int) (by omega) (by omega) (by rw [z3]; omega) (by omega)
    rw [z2, Int.toNat_natCast] at q
    exact ⟨_, q, _, fun _ => undef, heap_alloc_new w _, by rw [size_madeCells], fun i hi => absurd hi (by omega), bAlloc (Below.refl _ _) _⟩
end Go.Proofs.Ytpmcipnookjmgaa
namespace Go.Proofs.Ytpmcipnookjmgaa
open Go.RowKit
set_option linter.unusedVariables false
set_option linter.unusedSimpArgs false
/-- The first k of n are filled, in block o; their lists lie behind it and below hi. -/
def OwnInsI (o hi n k : Nat) (W : World) (E : Nat → Nat → Int) (N : Nat → List Int) : Prop :=
  ∃ (A : Array Value) (x : Nat → Value) (lo : Nat → Nat), W.heap[o]? = some (.cells A 46 (0, 0)) ∧ A.size = n * 6 ∧ lo 0 = o + 1 ∧ (∀ i, i < k → lo i ≤ lo (i + 1)) ∧ lo k ≤ hi ∧ hi ≤ W.heap.size ∧
    ∀ i, i < k → (A[i * 6]? = some (.int .i64 (E i 0)) ∧ A[i * 6 + 1]? = some (.int .i64 (E i 1)) ∧ A[i * 6 + 2]? = some (.int .i64 (E i 2)) ∧ A[i * 6 + 3]? = some (.int .i64 (E i 3)) ∧ A[i * 6 + 4]? = some (.int .i64 (E i 4)) ∧ A[i * 6 + 5]? = some (x i)) ∧ Piece (lo i) (lo (i + 1)) W (x i) (N i)
section
variable {W W' : World} {o hi n k : Nat} {E : Nat → Nat → Int} {N : Nat → List Int}
theorem OwnInsI.lt (h : OwnInsI o hi n k W E N) : o < W.heap.size := by obtain ⟨A, _, _, h1, _⟩ := h; exact lt_of_heapA h1
theorem OwnInsI.lthi (h : OwnInsI o hi n k W E N) : o < hi ∧ hi ≤ W.heap.size := by
  obtain ⟨A, x, lo, h1, h2, h3, h4, h5, h6, _⟩ := h
  have := lo_mono h4 (Nat.zero_le k) (Nat.le_refl k)
  omega
theorem OwnInsI.win {B C : Nat} (h : OwnInsI o hi n k W E N) (hw : Win B C W W') (hd : C ≤ o ∨ hi ≤ B) : OwnInsI o hi n k W' E N := by
  have hl := h.lt
  have hl2 := h.lthi
  obtain ⟨A, x, lo, h1, h2, h3, h4, h5, h6, h7⟩ := h
  refine ⟨A, x, lo, by rw [hw.block o hl (by omega)]; exact h1, h2, h3, h4, h5, Nat.le_trans h6 hw.size, fun i hi => ?_⟩
  obtain ⟨q1, q2⟩ := h7 i hi
  have m1 := lo_mono h4 (Nat.zero_le i) (Nat.le_of_lt hi)
  have m2 := lo_mono h4 (show i + 1 ≤ k from hi) (Nat.le_refl k)
  exact ⟨q1, q2.win hw (by omega)⟩
theorem OwnInsI.keep (h : OwnInsI o hi n k W E N) (hb : Below W.heap.size W W') : OwnInsI o hi n k W' E N := h.win (B := W.heap.size) (C := W.heap.size) (Below.win hb) (.inr h.lthi.2)
theorem OwnInsI.cells (h : OwnInsI o hi n k W E N) {i : Nat} (hk : i < n) : ((∃ u, W.cell? ⟨o, i * 6, none⟩ = some u) ∧ (∃ u, W.cell? ⟨o, i * 6 + 1, none⟩ = some u) ∧ (∃ u, W.cell? ⟨o, i * 6 + 2, none⟩ = some u) ∧ (∃ u, W.cell? ⟨o, i * 6 + 3, none⟩ = some u) ∧ (∃ u, W.cell? ⟨o, i * 6 + 4, none⟩ = some u) ∧ (∃ u, W.cell? ⟨o, i * 6 + 5, none⟩ = some u)) ∧ W.frozen? ⟨o, i * 6, none⟩ = false ∧ W.frozen? ⟨o, i * 6 + 1, none⟩ = false ∧ W.frozen? ⟨o, i * 6 + 2, none⟩ = false ∧ W.frozen? ⟨o, i * 6 + 3, none⟩ = false ∧ W.frozen? ⟨o, i * 6 + 4, none⟩ = false ∧ W.frozen? ⟨o, i * 6 + 5, none⟩ = false := by
  obtain ⟨A, x, lo, h1, h2, _⟩ := h
  have g : ∀ j, j < n * 6 → ∃ u, W.cell? ⟨o, j, none⟩ = some u := fun j hj => ⟨A[j]'(by omega), cell_at h1 (Array.getElem?_eq_getElem (by omega))⟩
  exact ⟨⟨g _ (by omega), g _ (by omega), g _ (by omega), g _ (by omega), g _ (by omega), g _ (by omega)⟩, free_at h1 _, free_at h1 _, free_at h1 _, free_at h1 _, free_at h1 _, free_at h1 _⟩
theorem OwnInsI.list (h : OwnInsI o hi n n W E N) : InsI W (.slice (some ⟨o, 0, none⟩) n n) n E N := by
  have hl := h.lt
  obtain ⟨A, x, lo, h1, h2, h3, h4, h5, h6, h7⟩ := h
  refine ⟨_, _, rfl, .inr ⟨o, 0, x, rfl, hl, fun i hi => ?_⟩⟩
  obtain ⟨⟨q0, q1, q2, q3, q4, q5⟩, qz⟩ := h7 i hi
  rw [Nat.zero_add]
  exact ⟨⟨cell_at h1 q0, cell_at h1 q1, cell_at h1 q2, cell_at h1 q3, cell_at h1 q4, cell_at h1 q5⟩, qz.intsI⟩
/-- One more is put. -/
theorem OwnInsI.put {W0 : World} (h : OwnInsI o hi n k W0 E N) (hb : Below W0.heap.size W0 W) (hk : k < n) {e : Nat → Int} (he : e = E k) {x' : Value} (px : Piece W0.heap.size W.heap.size W x' (N k)) : OwnInsI o W.heap.size n (k + 1) ((((((W.setCell ⟨o, k * 6, none⟩ (.int .i64 (e 0))).setCell ⟨o, k * 6 + 1, none⟩ (.int .i64 (e 1))).setCell ⟨o, k * 6 + 2, none⟩ (.int .i64 (e 2))).setCell ⟨o, k * 6 + 3, none⟩ (.int .i64 (e 3))).setCell ⟨o, k * 6 + 4, none⟩ (.int .i64 (e 4))).setCell ⟨o, k * 6 + 5, none⟩ x') E N := by
  have hw := h.keep hb
  have h0 := h.lthi
  obtain ⟨A, x, lo, h1, h2, h3, h4, h5, h6, h7⟩ := hw
  subst he
  have e0 := heap_setCell_same W o (k * 6) _ _ (.int .i64 (E k 0)) h1
  have e1 := heap_setCell_same _ o (k * 6 + 1) _ _ (.int .i64 (E k 1)) e0
  have e2 := heap_setCell_same _ o (k * 6 + 2) _ _ (.int .i64 (E k 2)) e1
  have e3 := heap_setCell_same _ o (k * 6 + 3) _ _ (.int .i64 (E k 3)) e2
  have e4 := heap_setCell_same _ o (k * 6 + 4) _ _ (.int .i64 (E k 4)) e3
  have e5 := heap_setCell_same _ o (k * 6 + 5) _ _ x' e4
  have ww : Win o (o + 1) W ((((((W.setCell ⟨o, k * 6, none⟩ (.int .i64 (E k 0))).setCell ⟨o, k * 6 + 1, none⟩ (.int .i64 (E k 1))).setCell ⟨o, k * 6 + 2, none⟩ (.int .i64 (E k 2))).setCell ⟨o, k * 6 + 3, none⟩ (.int .i64 (E k 3))).setCell ⟨o, k * 6 + 4, none⟩ (.int .i64 (E k 4))).setCell ⟨o, k * 6 + 5, none⟩ x') := ((((((win_setCell _ _ _ _).trans (win_setCell _ _ _ _)).trans (win_setCell _ _ _ _)).trans (win_setCell _ _ _ _)).trans (win_setCell _ _ _ _)).trans (win_setCell _ _ _ _))
  have m0 := lo_mono h4 (Nat.zero_le k) (Nat.le_refl k)
  have hz := hb.size
  refine ⟨_, fun i => if i = k then x' else x i, fun i => if i ≤ k then lo i else W.heap.size, e5, by simpa using h2, by simpa using h3, fun i hi => ?_, by show (if k + 1 ≤ k then lo (k + 1) else W.heap.size) ≤ _; rw [if_neg (Nat.not_succ_le_self k)]; exact Nat.le_refl _, by simp only [size_setCell]; exact Nat.le_refl _, fun i hi => ?_⟩
  · by_cases e : i = k
    · simp only [e, Nat.le_refl, if_true, if_neg (Nat.not_succ_le_self k)]; omega
    · simp only [if_pos (show i ≤ k by omega), if_pos (show i + 1 ≤ k by omega)]; exact h4 i (by omega)
  by_cases e : i = k
  · rw [e]
    simp only [if_true, Nat.le_refl, if_neg (Nat.not_succ_le_self k)]
    refine ⟨⟨?_, ?_, ?_, ?_, ?_, ?_⟩, (px.win ww (.inr (by omega))).mono (by omega) (Nat.le_refl _)⟩
    · rw [Array.getElem?_setIfInBounds, if_neg (by omega), Array.getElem?_setIfInBounds, if_neg (by omega), Array.getElem?_setIfInBounds, if_neg (by omega), Array.getElem?_setIfInBounds, if_neg (by omega), Array.getElem?_setIfInBounds, if_neg (by omega), Array.getElem?_setIfInBounds, if_pos rfl, if_pos (by (try simp only [Array.size_setIfInBounds]); omega)]
    · rw [Array.getElem?_setIfInBounds, if_neg (by omega), Array.getElem?_setIfInBounds, if_neg (by omega), Array.getElem?_setIfInBounds, if_neg (by omega), Array.getElem?_setIfInBounds, if_neg (by omega), Array.getElem?_setIfInBounds, if_pos rfl, if_pos (by (try simp only [Array.size_setIfInBounds]); omega)]
    · rw [Array.getElem?_setIfInBounds, if_neg (by omega), Array.getElem?_setIfInBounds, if_neg (by omega), Array.getElem?_setIfInBounds, if_neg (by omega), Array.getElem?_setIfInBounds, if_pos rfl, if_pos (by (try simp only [Array.size_setIfInBounds]); omega)]
    · rw [Array.getElem?_setIfInBounds, if_neg (by omega), Array.getElem?_setIfInBounds, if_neg (by omega), Array.getElem?_setIfInBounds, if_pos rfl, if_pos (by (try simp only [Array.size_setIfInBounds]); omega)]
    · rw [Array.getElem?_setIfInBounds, if_neg (by omega), Array.getElem?_setIfInBounds, if_pos rfl, if_pos (by (try simp only [Array.size_setIfInBounds]); omega)]
    · rw [Array.getElem?_setIfInBounds, if_pos rfl, if_pos (by (try simp only [Array.size_setIfInBounds]); omega)]
  · obtain ⟨⟨q0, q1, q2, q3, q4, q5⟩, qz⟩ := h7 i (by omega)
    have m1 := lo_mono h4 (Nat.zero_le i) (show i ≤ k by omega)
    simp only [if_neg e, if_pos (show i ≤ k by omega), if_pos (show i + 1 ≤ k by omega)]
    refine ⟨⟨?_, ?_, ?_, ?_, ?_, ?_⟩, qz.win ww (.inr (by omega))⟩
    · rw [Array.getElem?_setIfInBounds, if_neg (by omega), Array.getElem?_setIfInBounds, if_neg (by omega), Array.getElem?_setIfInBounds, if_neg (by omega), Array.getElem?_setIfInBounds, if_neg (by omega), Array.getElem?_setIfInBounds, if_neg (by omega), Array.getElem?_setIfInBounds, if_neg (by omega)]; exact q0
    · rw [Array.getElem?_setIfInBounds, if_neg (by omega), Array.getElem?_setIfInBounds, if_neg (by omega), Array.getElem?_setIfInBounds, if_neg (by omega), Array.getElem?_setIfInBounds, if_neg (by omega), Array.getElem?_setIfInBounds, if_neg (by omega), Array.getElem?_setIfInBounds, if_neg (by omega)]; exact q1
    · rw [Array.getElem?_setIfInBounds, if_neg (by omega), Array.getElem?_setIfInBounds, if_neg (by omega), Array.getElem?_setIfInBounds, if_neg (by omega), Array.getElem?_setIfInBounds, if_neg (by omega), Array.getElem?_setIfInBounds, if_neg (by omega), Array.getElem?_setIfInBounds, if_neg (by omega)]; exact q2
    · rw [Array.getElem?_setIfInBounds, if_neg (by omega), Array.getElem?_setIfInBounds, if_neg (by omega), Array.getElem?_setIfInBounds, if_neg (by omega), Array.getElem?_setIfInBounds, if_neg (by omega), Array.getElem?_setIfInBounds, if_neg (by omega), Array.getElem?_setIfInBounds, if_neg (by omega)]; exact q3
    · rw [Array.getElem?_setIfInBounds, if_neg (by omega), Array.getElem?_setIfInBounds, if_neg (by omega), Array.getElem?_setIfInBounds, if_neg (by omega), Array.getElem?_setIfInBounds, if_neg (by omega), Array.getElem?_setIfInBounds, if_neg (by omega), Array.getElem?_setIfInBounds, if_neg (by omega)]; exact q4
    · rw [Array.getElem?_setIfInBounds, if_neg (by omega), Array.getElem?_setIfInBounds, if_neg (by omega), Array.getElem?_setIfInBounds, if_neg (by omega), Array.getElem?_setIfInBounds, if_neg (by omega), Array.getElem?_setIfInBounds, if_neg (by omega), Array.getElem?_setIfInBounds, if_neg (by omega)]; exact q5
/-- The numbers of one are turned. -/
theorem OwnInsI.turn (h : OwnInsI o hi n n W E N) (hk : k < n) (e : Nat → Int) : OwnInsI o hi n n (((((W.setCell ⟨o, k * 6, none⟩ (.int .i64 (e 0))).setCell ⟨o, k * 6 + 1, none⟩ (.int .i64 (e 1))).setCell ⟨o, k * 6 + 2, none⟩ (.int .i64 (e 2))).setCell ⟨o, k * 6 + 3, none⟩ (.int .i64 (e 3))).setCell ⟨o, k * 6 + 4, none⟩ (.int .i64 (e 4))) (fun i => if i = k then e else E i) N := by
  have h0 := h.lthi
  obtain ⟨A, x, lo, h1, h2, h3, h4, h5, h6, h7⟩ := h
  have e0 := heap_setCell_same W o (k * 6) _ _ (.int .i64 (e 0)) h1
  have e1 := heap_setCell_same _ o (k * 6 + 1) _ _ (.int .i64 (e 1)) e0
  have e2 := heap_setCell_same _ o (k * 6 + 2) _ _ (.int .i64 (e 2)) e1
  have e3 := heap_setCell_same _ o (k * 6 + 3) _ _ (.int .i64 (e 3)) e2
  have e4 := heap_setCell_same _ o (k * 6 + 4) _ _ (.int .i64 (e 4)) e3
  have ww : Win o (o + 1) W (((((W.setCell ⟨o, k * 6, none⟩ (.int .i64 (e 0))).setCell ⟨o, k * 6 + 1, none⟩ (.int .i64 (e 1))).setCell ⟨o, k * 6 + 2, none⟩ (.int .i64 (e 2))).setCell ⟨o, k * 6 + 3, none⟩ (.int .i64 (e 3))).setCell ⟨o, k * 6 + 4, none⟩ (.int .i64 (e 4))) := (((((win_setCell _ _ _ _).trans (win_setCell _ _ _ _)).trans (win_setCell _ _ _ _)).trans (win_setCell _ _ _ _)).trans (win_setCell _ _ _ _))
  refine ⟨_, x, lo, e4, by simpa using h2, h3, h4, h5, by simp only [size_setCell]; exact h6, fun i hi => ?_⟩
  obtain ⟨⟨q0, q1, q2, q3, q4, q5⟩, qz⟩ := h7 i hi
  have m1 := lo_mono h4 (Nat.zero_le i) (Nat.le_of_lt hi)
  have qz' := qz.win ww (.inr (by omega))
  by_cases e : i = k
  · subst e
    simp only [if_true]
    refine ⟨⟨?_, ?_, ?_, ?_, ?_, ?_⟩, qz'⟩
    · rw [Array.getElem?_setIfInBounds, if_neg (by omega), Array.getElem?_setIfInBounds, if_neg (by omega), Array.getElem?_setIfInBounds, if_neg (by omega), Array.getElem?_setIfInBounds, if_neg (by omega), Array.getElem?_setIfInBounds, if_pos rfl, if_pos (by (try simp only [Array.size_setIfInBounds]); omega)]
    · rw [Array.getElem?_setIfInBounds, if_neg (by omega), Array.getElem?_setIfInBounds, if_neg (by omega), Array.getElem?_setIfInBounds, if_neg (by omega), Array.getElem?_setIfInBounds, if_pos rfl, if_pos (by (try simp only [Array.size_setIfInBounds]); omega)]
    · rw [Array.getElem?_setIfInBounds, if_neg (by omega), Array.getElem?_setIfInBounds, if_neg (by omega), Array.getElem?_setIfInBounds, if_pos rfl, if_pos (by (try simp only [Array.size_setIfInBounds]); omega)]
    · rw [Array.getElem?_setIfInBounds, if_neg (by omega), Array.getElem?_setIfInBounds, if_pos rfl, if_pos (by (try simp only [Array.size_setIfInBounds]); omega)]
    · rw [Array.getElem?_setIfInBounds, if_pos rfl, if_pos (by (try simp only [Array.size_setIfInBounds]); omega)]
    · rw [Array.getElem?_setIfInBounds, if_neg (by omega), Array.getElem?_setIfInBounds, if_neg (by omega), Array.getElem?_setIfInBounds, if_neg (by omega), Array.getElem?_setIfInBounds, if_neg (by omega), Array.getElem?_setIfInBounds, if_neg (by omega)]; exact q5
  · simp only [if_neg e]
    refine ⟨⟨?_, ?_, ?_, ?_, ?_, ?_⟩, qz'⟩
    · rw [Array.getElem?_setIfInBounds, if_neg (by omega), Array.getElem?_setIfInBounds, if_neg (by omega), Array.getElem?_setIfInBounds, if_neg (by omega), Array.getElem?_setIfInBounds, if_neg (by omega), Array.getElem?_setIfInBounds, if_neg (by omega)]; exact q0
    · rw [Array.getElem?_setIfInBounds, if_neg (by omega), Array.getElem?_setIfInBounds, if_neg (by omega), Array.getElem?_setIfInBounds, if_neg (by omega), Array.getElem?_setIfInBounds, if_neg (by omega), Array.getElem?_setIfInBounds, if_neg (by omega)]; exact q1
    · rw [Array.getElem?_setIfInBounds, if_neg (by omega), Array.getElem?_setIfInBounds, if_neg (by omega), Array.getElem?_setIfInBounds, if_neg (by omega), Array.getElem?_setIfInBounds, if_neg (by omega), Array.getElem?_setIfInBounds, if_neg (by omega)]; exact q2
    · rw [Array.getElem?_setIfInBounds, if_neg (by omega), Array.getElem?_setIfInBounds, if_neg (by omega), Array.getElem?_setIfInBounds, if_neg (by omega), Array.getElem?_setIfInBounds, if_neg (by omega), Array.getElem?_setIfInBounds, if_neg (by omega)]; exact q3
    · rw [Array.getElem?_setIfInBounds, if_neg (by omega), Array.getElem?_setIfInBounds, if_neg (by omega), Array.getElem?_setIfInBounds, if_neg (by omega), Array.getElem?_setIfInBounds, if_neg (by omega), Array.getElem?_setIfInBounds, if_neg (by omega)]; exact q4
    · rw [Array.getElem?_setIfInBounds, if_neg (by omega), Array.getElem?_setIfInBounds, if_neg (by omega), Array.getElem?_setIfInBounds, if_neg (by omega), Array.getElem?_setIfInBounds, if_neg (by omega), Array.getElem?_setIfInBounds, if_neg (by omega)]; exact q5
/-- Its list alone is turned. -/
theorem OwnInsI.piece (h : OwnInsI o hi n n W E N) (hk : k < n) : ∃ xa xc B C, W.cell? ⟨o, k * 6 + 5, none⟩ = some (.slice xa (N k).length xc) ∧ o + 1 ≤ B ∧ C ≤ hi ∧ Piece B C W (.slice xa (N k).length xc) (N k) ∧
    ∀ (W' : World) (m : List Int), Piece B C W' (.slice xa (N k).length xc) m → Win B C W W' → OwnInsI o hi n n W' E (fun i => if i = k then m else N i) := by
  have hl := h.lt
  obtain ⟨A, x, lo, h1, h2, h3, h4, h5, h6, h7⟩ := h
  obtain ⟨⟨q0, q1, q2, q3, q4, q5⟩, qz⟩ := h7 k hk
  have m1 := lo_mono h4 (Nat.zero_le k) (Nat.le_of_lt hk)
  have m2 := lo_mono h4 (show k + 1 ≤ n from hk) (Nat.le_refl n)
  obtain ⟨xa, xc, ex, _⟩ := qz.ints
  refine ⟨xa, xc, lo k, lo (k + 1), by rw [← ex]; exact cell_at h1 q5, by omega, by omega, by rw [← ex]; exact qz, fun W' m hm hw => ?_⟩
  rw [← ex] at hm
  refine ⟨A, x, lo, by rw [hw.block o hl (by omega)]; exact h1, h2, h3, h4, h5, Nat.le_trans h6 hw.size, fun i hi => ?_⟩
  by_cases e : i = k
  · subst e
    simp only [if_true]
    exact ⟨⟨q0, q1, q2, q3, q4, q5⟩, hm⟩
  · obtain ⟨r1, r2⟩ := h7 i hi
    simp only [if_neg e]
    refine ⟨r1, r2.win hw ?_⟩
    by_cases e2 : i < k
    · have := lo_mono h4 (show i + 1 ≤ k from e2) (Nat.le_of_lt hk); omega
    · have := lo_mono h4 (show k + 1 ≤ i by omega) (Nat.le_of_lt hi); omega
end
end Go.Proofs.Ytpmcipnookjmgaa
namespace Go.Proofs.Ytpmcipnookjmgaa
open Go.RowKit
set_option linter.unusedVariables false
set_option linter.unusedSimpArgs false
/-- Marked from k0 on. -/
def MkdInsI (k0 : Int) (N0 : Nat → List Int) (k : Nat) (E : Nat → Nat → Int) (N : Nat → List Int) : Prop :=
  ∀ i, i < k → (E i 0 = k0 + (totN 5 N0 i : Int) + 0 ∧ E i 1 = k0 + (totN 5 N0 i : Int) + 1 ∧ E i 2 = k0 + (totN 5 N0 i : Int) + 2 ∧ E i 3 = k0 + (totN 5 N0 i : Int) + 3 ∧ E i 4 = k0 + (totN 5 N0 i : Int) + 4) ∧ N i = upFrom (k0 + (totN 5 N0 i : Int) + 5) (N0 i).length
/-- One of them is marked. -/
theorem OwnInsI.mark1 {W : World} {o hi n k : Nat} {E : Nat → Nat → Int} {N : Nat → List Int} (h : OwnInsI o hi n n W E N) (hk : k < n) (e : Nat → Int) : ∃ xa xc, W.cell? ⟨o, k * 6 + 5, none⟩ = some (.slice xa (N k).length xc) ∧
    ∀ k1 : Int, (N k).length ≤ 1048576 → 0 ≤ k1 → k1 ≤ 4611686018427387904 → Calls Try.prog 21 #[.slice xa (N k).length xc, .int .i64 k1] (((((W.setCell ⟨o, k * 6, none⟩ (.int .i64 (e 0))).setCell ⟨o, k * 6 + 1, none⟩ (.int .i64 (e 1))).setCell ⟨o, k * 6 + 2, none⟩ (.int .i64 (e 2))).setCell ⟨o, k * 6 + 3, none⟩ (.int .i64 (e 3))).setCell ⟨o, k * 6 + 4, none⟩ (.int .i64 (e 4))) fun r w' => r = .returned (.int .i64 (k1 + (N k).length)) ∧ OwnInsI o hi n n w' (fun i => if i = k then e else E i) (fun i => if i = k then upFrom k1 (N k).length else N i) ∧ Win o hi W w' := by
  have hlt := h.lthi
  have ht := h.turn hk e
  obtain ⟨xa, xc, B, C, cx, hB, hC, hp, hall⟩ := ht.piece hk
  have cw : W.cell? ⟨o, k * 6 + 5, none⟩ = some (.slice xa (N k).length xc) := by
    obtain ⟨A, x, lo, h1, h2, h3, h4, h5, h6, h7⟩ := h
    have e0 := heap_setCell_same W o (k * 6) _ _ (.int .i64 (e 0)) h1
    have e1 := heap_setCell_same _ o (k * 6 + 1) _ _ (.int .i64 (e 1)) e0
    have e2 := heap_setCell_same _ o (k * 6 + 2) _ _ (.int .i64 (e 2)) e1
    have e3 := heap_setCell_same _ o (k * 6 + 3) _ _ (.int .i64 (e 3)) e2
    have e4 := heap_setCell_same _ o (k * 6 + 4) _ _ (.int .i64 (e 4)) e3
    obtain ⟨⟨q0, q1, q2, q3, q4, q5⟩, qz⟩ := h7 k hk
    have c1 : (((((W.setCell ⟨o, k * 6, none⟩ (.int .i64 (e 0))).setCell ⟨o, k * 6 + 1, none⟩ (.int .i64 (e 1))).setCell ⟨o, k * 6 + 2, none⟩ (.int .i64 (e 2))).setCell ⟨o, k * 6 + 3, none⟩ (.int .i64 (e 3))).setCell ⟨o, k * 6 + 4, none⟩ (.int .i64 (e 4))).cell? ⟨o, k * 6 + 5, none⟩ = some (x k) := cell_at e4 (by rw [Array.getElem?_setIfInBounds, if_neg (by omega), Array.getElem?_setIfInBounds, if_neg (by omega), Array.getElem?_setIfInBounds, if_neg (by omega), Array.getElem?_setIfInBounds, if_neg (by omega), Array.getElem?_setIfInBounds, if_neg (by omega)]; exact q5)
    rw [← cx, c1]
    exact cell_at h1 q5
  refine ⟨xa, xc, cw, fun k1 hl p1 p2 => (mark_pieceW hp hl k1 p1 p2).mono ?_⟩
  rintro r w' ⟨rfl, hq, ho⟩
  have hw := ho.win hp
  refine ⟨rfl, hall w' _ hq hw, Win.trans ?_ ⟨hw.os, hw.tape, hw.output, hw.size, fun j hj hd => hw.block j hj (by omega)⟩⟩
  exact (((((Win.refl _ _ _).setCell (Nat.le_refl _) hlt.1 _ _).setCell (Nat.le_refl _) hlt.1 _ _).setCell (Nat.le_refl _) hlt.1 _ _).setCell (Nat.le_refl _) hlt.1 _ _).setCell (Nat.le_refl _) hlt.1 _ _
set_option maxRecDepth 20000 in
set_option maxHeartbeats 8000000 in
/-- A list is marked: its own cells turn, no other one. -/
theorem markInstrS_at {o hi n : Nat} {w : World} {E : Nat → Nat → Int} {N : Nat → List Int} (h : OwnInsI o hi n n w E N) (hl : ∀ i, (N i).length ≤ 1048576) (hn : n ≤ 1048576) (k0 : Int) (p1 : 0 ≤ k0) (p2 : k0 ≤ 1099511627776) :
    Calls Try.prog 11 #[.slice (some ⟨o, 0, none⟩) n n, .int .i64 k0] w fun e w' => e = .returned (.int .i64 (k0 + (totN 5 N n : Int))) ∧ (∃ E' N', OwnInsI o hi n n w' E' N' ∧ MkdInsI k0 N n E' N') ∧ Win o hi w w' := by
  have H : Hid (OwnInsI o hi n n w E N) := h
  have HL : Hid (∀ i, (N i).length ≤ 1048576) := hl
  have HT : Hid (∀ i, i ≤ n → totN 5 N i ≤ 1099518000000) := fun i hi => totN_le hl (by omega) (by omega)
  have T0 : Hid (totN 5 N 0 = 0) := rfl
  clear h hl
  go_enter Try.func11, Try.ntmps11
  go_wp2
  go_loopw [1, 5] (fun q i w' => ∃ (k : Nat) (E' : Nat → Nat → Int) (N' : Nat → List Int), k ≤ n ∧ i = .int .i64 k ∧ q = .int .i64 (k0 + (totN 5 N k : Int)) ∧ OwnInsI o hi n n w' E' N' ∧ MkdInsI k0 N k E' N' ∧ (∀ i, k ≤ i → N' i = N i) ∧ Win o hi w w') (fun _ i _ => n - (intOf i).toNat)
  case atStart => exact ⟨0, E, N, by omega, rfl, by rw [T0.out]; simp, H.out, fun i hi => absurd hi (by omega), fun _ _ => rfl, Win.refl _ _ _⟩
  case round =>
    obtain ⟨k, E', N', hk, rfl, rfl, hO, hM, hN, hW⟩ := hrel
    have HO : Hid (OwnInsI o hi n n wr E' N') := hO
    have HM : Hid (MkdInsI k0 N k E' N') := hM
    have HN : Hid (∀ i, k ≤ i → N' i = N i) := hN
    have HW : Hid (Win o hi w wr) := hW
    clear hO hM hN hW
    by_cases hlt : (k : Int) < (n : Int)
    · have L : k < n := by omega
      have ht := HT.out k hk
      have TS : Hid (totN 5 N (k + 1) = totN 5 N k + (5 + (N k).length)) := rfl
      obtain ⟨⟨⟨u0, c0⟩, ⟨u1, c1⟩, ⟨u2, c2⟩, ⟨u3, c3⟩, ⟨u4, c4⟩, ⟨u5, c5⟩⟩, f0, f1, f2, f3, f4, f5⟩ := HO.out.cells L
      obtain ⟨xa, xc, cx, hall⟩ := HO.out.mark1 L (fun j => k0 + (totN 5 N k : Int) + (j : Int))
      rw [HN.out k (Nat.le_refl _)] at cx hall
      clear c5 u5 f5
      have NXT : Hid (∀ (E'' : Nat → Nat → Int) (N'' : Nat → List Int), E'' = (fun i => if i = k then (fun (j : Nat) => k0 + (totN 5 N k : Int) + (j : Int)) else E' i) → N'' = (fun i => if i = k then upFrom (k0 + (totN 5 N k : Int) + 5) (N k).length else N' i) → MkdInsI k0 N (k + 1) E'' N'' ∧ ∀ i, k + 1 ≤ i → N'' i = N i) := by
        intro E'' N'' he hn
        subst he hn
        refine ⟨fun i hi => ?_, fun i hi => by simp only [if_neg (show ¬ i = k by omega)]; exact HN.out i (by omega)⟩
        by_cases e : i = k
        · subst e; simp
        · simp only [if_neg e]; exact HM.out i (by omega)
      have CM : Hid (Calls Try.prog 21 #[.slice xa (N k).length xc, .int .i64 (k0 + (totN 5 N k : Int) + 1 + 1 + 1 + 1 + 1)] (((((wr.setCell ⟨o, k * 6, none⟩ (.int .i64 (k0 + (totN 5 N k : Int)))).setCell ⟨o, k * 6 + 1, none⟩ (.int .i64 (k0 + (totN 5 N k : Int) + 1))).setCell ⟨o, k * 6 + 2, none⟩ (.int .i64 (k0 + (totN 5 N k : Int) + 1 + 1))).setCell ⟨o, k * 6 + 3, none⟩ (.int .i64 (k0 + (totN 5 N k : Int) + 1 + 1 + 1))).setCell ⟨o, k * 6 + 4, none⟩ (.int .i64 (k0 + (totN 5 N k : Int) + 1 + 1 + 1 + 1))) fun r w' => r = .returned (.int .i64 (k0 + (totN 5 N (k + 1) : Int))) ∧ (∃ E'' N'', OwnInsI o hi n n w' E'' N'' ∧ MkdInsI k0 N (k + 1) E'' N'' ∧ ∀ i, k + 1 ≤ i → N'' i = N i) ∧ Win o hi w w') := by
        have := hall (k0 + (totN 5 N k : Int) + 5) (HL.out k) (by omega) (by omega)
        rw [show k0 + (totN 5 N k : Int) + 1 + 1 = k0 + (totN 5 N k : Int) + 2 by omega, show k0 + (totN 5 N k : Int) + 2 + 1 = k0 + (totN 5 N k : Int) + 3 by omega, show k0 + (totN 5 N k : Int) + 3 + 1 = k0 + (totN 5 N k : Int) + 4 by omega, show k0 + (totN 5 N k : Int) + 4 + 1 = k0 + (totN 5 N k : Int) + 5 by omega]
        simp only [Int.natCast_zero, Int.add_zero, Int.ofNat_zero] at this
        refine this.mono ?_
        rintro r w' ⟨rfl, h1, h2⟩
        refine ⟨by rw [TS.out]; congr 2; omega, ⟨_, _, h1, NXT.out _ _ rfl rfl⟩, HW.out.trans h2⟩
      clear hall TS NXT
      generalize (N k).length = nl at *
      generalize totN 5 N k = z at *
      have HZ : Hid (totN 5 N (k + 1) = totN 5 N (k + 1)) := rfl
      generalize hz' : totN 5 N (k + 1) = z' at CM
      have HZ' : Hid (totN 5 N (k + 1) = z') := hz'
      clear HZ hz'
      go_wp2_with fail
      refine CM.out.mono ?_
      rintro r w2 ⟨rfl, ⟨E2, N2, hO, hM, hN⟩, hW⟩
      have O2 : Hid (OwnInsI o hi n n w2 E2 N2) := hO
      have X2 : Hid (MkdInsI k0 N (k + 1) E2 N2 ∧ (∀ i, k + 1 ≤ i → N2 i = N i) ∧ Win o hi w w2) := ⟨hM, hN, hW⟩
      clear hO hM hN hW CM
      go_wp2
      go_roundw
      case rel => exact ⟨k + 1, E2, N2, by omega, by go_num, by rw [HZ'.out], O2.out, X2.out⟩
      case measure => simp [intOf]; omega
    · have e : k = n := by omega
      subst e
      go_wp2
      go_ret
      exact ⟨rfl, ⟨E', N', HO.out, HM.out⟩, HW.out⟩
set_option maxRecDepth 20000 in
set_option maxHeartbeats 8000000 in
/-- What is marked is held. -/
theorem heldInstrS_at {o hi n : Nat} {w : World} {E : Nat → Nat → Int} {N N0 : Nat → List Int} (k0 : Int) (h : OwnInsI o hi n n w E N) (hm : MkdInsI k0 N0 n E N) (hl : ∀ i, (N0 i).length ≤ 1048576) (hn : n ≤ 1048576) (hT : totN 5 N0 n ≤ 1073741824) (p1 : 0 ≤ k0) (p2 : k0 ≤ 1073741824) :
    Calls Try.prog 12 #[.slice (some ⟨o, 0, none⟩) n n, .int .i64 k0] w fun e w' => e = .returned (.int .i64 (k0 + (totN 5 N0 n : Int))) ∧ w' = w := by
  have H : Hid (OwnInsI o hi n n w E N) := h
  have HM : Hid (MkdInsI k0 N0 n E N) := hm
  have HL : Hid (∀ i, (N0 i).length ≤ 1048576) := hl
  have HT : Hid (∀ i, i ≤ n → totN 5 N0 i ≤ 1073741824) := fun i hi => Nat.le_trans (totN_mono 5 N0 hi) hT
  have T0 : Hid (totN 5 N0 0 = 0) := rfl
  clear h hl hm hT
  go_enter Try.func12, Try.ntmps12
  go_wp2
  go_loop [1, 5] (fun q i => ∃ (k : Nat), k ≤ n ∧ i = .int .i64 k ∧ q = .int .i64 (k0 + (totN 5 N0 k : Int))) (fun _ i => n - (intOf i).toNat)
  case atStart => exact ⟨0, by omega, rfl, by rw [T0.out]; simp⟩
  case round =>
    obtain ⟨k, hk, rfl, rfl⟩ := hrel
    by_cases hlt : (k : Int) < (n : Int)
    · have L : k < n := by omega
      have ht := HT.out k hk
      have ht2 := HT.out (k + 1) (by omega)
      have TS : totN 5 N0 (k + 1) = totN 5 N0 k + (5 + (N0 k).length) := rfl
      obtain ⟨⟨m0, m1, m2, m3, m4⟩, mn⟩ := HM.out k L
      obtain ⟨A, x, lo, h1, h2, h3, h4, h5, h6, h7⟩ := H.out
      obtain ⟨⟨q0, q1, q2, q3, q4, q5⟩, qz⟩ := h7 k L
      rw [mn] at qz
      obtain ⟨xa, xc, ex, _⟩ := qz.ints
      rw [upFrom_length] at ex
      rw [ex] at qz q5
      have c0 : w.cell? ⟨o, k * 6, none⟩ = some (.int .i64 (k0 + (totN 5 N0 k : Int))) := by rw [cell_at h1 q0, m0, Int.add_zero]
      have c1 : w.cell? ⟨o, k * 6 + 1, none⟩ = some (.int .i64 (k0 + (totN 5 N0 k : Int) + 1)) := by rw [cell_at h1 q1, m1]
      have c2 : w.cell? ⟨o, k * 6 + 2, none⟩ = some (.int .i64 (k0 + (totN 5 N0 k : Int) + 1 + 1)) := by rw [cell_at h1 q2, m2]; congr 2; omega
      have c3 : w.cell? ⟨o, k * 6 + 3, none⟩ = some (.int .i64 (k0 + (totN 5 N0 k : Int) + 1 + 1 + 1)) := by rw [cell_at h1 q3, m3]; congr 2; omega
      have c4 : w.cell? ⟨o, k * 6 + 4, none⟩ = some (.int .i64 (k0 + (totN 5 N0 k : Int) + 1 + 1 + 1 + 1)) := by rw [cell_at h1 q4, m4]; congr 2; omega
      have c5 : w.cell? ⟨o, k * 6 + 5, none⟩ = some (.slice xa (N0 k).length xc) := cell_at h1 q5
      have CH : Hid (Calls Try.prog 22 #[.slice xa (N0 k).length xc, .int .i64 (k0 + (totN 5 N0 k : Int) + 1 + 1 + 1 + 1 + 1)] w fun e w' => e = .returned (.int .i64 (k0 + (totN 5 N0 (k + 1) : Int))) ∧ w' = w) := by
        have := held_piece (k0 + (totN 5 N0 k : Int) + 5) qz (HL.out k) (by omega) (by omega)
        rw [show k0 + (totN 5 N0 k : Int) + 1 + 1 = k0 + (totN 5 N0 k : Int) + 2 by omega, show k0 + (totN 5 N0 k : Int) + 2 + 1 = k0 + (totN 5 N0 k : Int) + 3 by omega, show k0 + (totN 5 N0 k : Int) + 3 + 1 = k0 + (totN 5 N0 k : Int) + 4 by omega, show k0 + (totN 5 N0 k : Int) + 4 + 1 = k0 + (totN 5 N0 k : Int) + 5 by omega]
        refine this.mono ?_
        rintro e w' ⟨rfl, h⟩
        exact ⟨by rw [TS]; congr 2; omega, h⟩
      have PZ : 0 ≤ k0 + (totN 5 N0 (k + 1) : Int) := by omega
      clear q0 q1 q2 q3 q4 q5 h1 h2 h3 h4 h5 h6 h7 qz ex mn m0 m1 m2 m3 m4 TS
      generalize (N0 k).length = nl at *
      generalize totN 5 N0 k = z at *
      generalize hz' : totN 5 N0 (k + 1) = z' at CH PZ ht2
      have HZ' : Hid (totN 5 N0 (k + 1) = z') := hz'
      clear hz'
      go_wp2_with fail
      refine CH.out.mono ?_
      rintro r w' ⟨rfl, hw⟩
      subst w'
      clear CH
      go_wp2
      go_round
      case rel => exact ⟨k + 1, by omega, by go_num, by rw [HZ'.out]⟩
      case measure => simp [intOf]; omega
    · have e : k = n := by omega
      subst e
      go_wp2
      go_ret
      exact ⟨rfl, rfl⟩
end Go.Proofs.Ytpmcipnookjmgaa
namespace Go.Proofs.Ytpmcipnookjmgaa
open Go.RowKit
set_option linter.unusedVariables false
set_option linter.unusedSimpArgs false
def bvals (l : List Int) : Array Value := (l.map (Value.int .u8)).toArray
theorem bvals_at {l : List Int} {k : Nat} (h : k < l.length) : (bvals l)[k]? = some (.int .u8 (l.getD k 0)) := by simp [bvals, h]
/-- A slice's address leads to these bytes. -/
def Bys (w : World) (a : Option Addr) (l : List Int) : Prop :=
  l = [] ∨ ∃ b off, a = some ⟨b, off, none⟩ ∧ b < w.heap.size ∧ ∀ k, k < l.length → w.cell? ⟨b, off + k, none⟩ = some (.int .u8 (l.getD k 0))
theorem Bys.keep {w w' : World} {a : Option Addr} {l : List Int} (h : Bys w a l) (hb : Below w.heap.size w w') : Bys w' a l := by
  rcases h with h | ⟨b, off, e, hB, hc⟩
  · exact .inl h
  · exact .inr ⟨b, off, e, Nat.lt_of_lt_of_le hB hb.size, fun k hk => by rw [hb.cell (p := ⟨b, off + k, none⟩) hB]; exact hc k hk⟩
theorem bys_new (w : World) (l : List Int) (t : TypeId) : Bys (w.alloc (.cells (bvals l) t)) (some ⟨w.heap.size, 0, none⟩) l :=
  .inr ⟨w.heap.size, 0, rfl, by simp, fun k hk => by rw [World.cell?_alloc_at _ _ _ _ rfl, Nat.zero_add]; exact bvals_at hk⟩
theorem Bys.at {w : World} {a : Option Addr} {l : List Int} (h : Bys w a l) {k : Nat} (hk : k < l.length) : ∃ b off, a = some ⟨b, off, none⟩ ∧ b < w.heap.size ∧ w.cell? ⟨b, off + k, none⟩ = some (.int .u8 (l.getD k 0)) := by
  rcases h with h | ⟨b, off, e, hB, hc⟩
  · subst h; simp at hk
  · exact ⟨b, off, e, hB, hc k hk⟩
/-- A list of numbers in memory from block B on, which nothing else shares. -/
def NewB (B : Nat) (w : World) (v : Value) (l : List Int) : Prop := w.ownsRow B 5 1 v l.length (l.map (Value.int .u8))
theorem NewB.bys {B : Nat} {w : World} {v : Value} {l : List Int} (h : NewB B w v l) : ∃ a c, v = .slice a l.length c ∧ Bys w a l := by
  obtain ⟨h1, h2⟩ := h
  rcases h2 with ⟨rfl, h0⟩ | ⟨g, cap, cur, rfl, hB, hg, hc, hm, hs, ht⟩
  · have : l = [] := List.eq_nil_of_length_eq_zero h0
    subst this
    exact ⟨none, 0, rfl, .inl rfl⟩
  · refine ⟨_, cap, rfl, .inr ⟨g, 0, rfl, (Array.getElem?_eq_some_iff.1 hg).1, fun k hk => ?_⟩⟩
    have e : cur[k]? = some (.int .u8 (l.getD k 0)) := by
      have h3 : (cur.toList.take (l.length * 1))[k]? = (l.map (Value.int .u8))[k]? := by rw [ht]
      rw [Nat.mul_one, List.getElem?_take_of_lt hk] at h3
      simpa [hk] using h3
    simp only [World.cell?, hg, Nat.zero_add]
    simpa using e
theorem NewB.mono {B B' : Nat} {w : World} {v : Value} {l : List Int} (h : NewB B w v l) (hB : B' ≤ B) : NewB B' w v l := by
  obtain ⟨h1, h2⟩ := h
  refine ⟨h1, ?_⟩
  rcases h2 with h2 | ⟨g, cap, cur, e, hg, r⟩
  · exact .inl h2
  · exact .inr ⟨g, cap, cur, e, by omega, r⟩
theorem NewB.row {B : Nat} {w : World} {v : Value} {l : List Int} (h : NewB B w v l) : ∀ k, v.ownBlock = some k → B ≤ k := by
  obtain ⟨h1, h2⟩ := h
  intro k hk
  rcases h2 with ⟨rfl, _⟩ | ⟨g, cap, cur, rfl, hB, _⟩
  · simp [Value.ownBlock] at hk
  · simp [Value.ownBlock] at hk; omega
theorem newB_alloc (w : World) (l : List Int) {B : Nat} (hB : B ≤ w.heap.size) (hl : l.length ≤ 1073741824) : NewB B (w.alloc (.cells (bvals l) 5)) (.slice (some ⟨w.heap.size, 0, none⟩) l.length l.length) l := by
  refine ⟨by simp, .inr ⟨w.heap.size, l.length, bvals l, rfl, hB, heap_alloc_new w _, Nat.le_refl _, by unfold maxLen; omega, by simp [bvals], ?_⟩⟩
  simp only [bvals, Nat.mul_one]
  exact List.take_of_length_le (by simp)
theorem info_u8 : (Try.prog.info? 5).map (fun i => (i.zero, i.size, i.bytes)) = some (some (.int .u8 0), 1, 1) := by kernel_rfl
theorem bys_news {w : World} {b off : Nat} {l : List Int} (h : ∀ k, k < l.length → w.cell? ⟨b, off + k, none⟩ = some (.int .u8 (l.getD k 0))) : ∀ (j : Nat) (v : Value), (l.map (Value.int .u8))[j]? = some v → w.cell? ((⟨b, off, none⟩ : Addr).add j) = some v := by
  intro j v hv
  rw [List.getElem?_map] at hv
  cases hx : l[j]? with
  | none => rw [hx] at hv; cases hv
  | some x =>
    rw [hx] at hv
    obtain ⟨hj, rfl⟩ := List.getElem?_eq_some_iff.1 hx
    have e : (⟨b, off, none⟩ : Addr).add j = ⟨b, off + j, none⟩ := by unfold Addr.add; split <;> simp_all
    rw [e, h j hj]
    simpa [hj] using hv
/-- What an append leaves: no block has turned but the list's own, and it lies there still, or in a new one. -/
structure Gr (v : Value) (w : World) (v' : Value) (w' : World) : Prop where
  os : w'.os = w.os
  tape : w'.tape = w.tape
  output : w'.output = w.output
  size : w.heap.size ≤ w'.heap.size
  block : ∀ k, k < w.heap.size → some k ≠ v.ownBlock → w'.heap[k]? = w.heap[k]?
  own : v'.ownBlock = v.ownBlock ∨ ∃ o, v'.ownBlock = some o ∧ w.heap.size ≤ o
theorem Gr.refl (v : Value) (w : World) : Gr v w v w := ⟨rfl, rfl, rfl, Nat.le_refl _, fun _ _ _ => rfl, .inl rfl⟩
theorem Gr.trans {v v1 v2 : Value} {w w1 w2 : World} (h : Gr v w v1 w1) (k : Gr v1 w1 v2 w2) : Gr v w v2 w2 := by
  refine ⟨k.os.trans h.os, k.tape.trans h.tape, k.output.trans h.output, Nat.le_trans h.size k.size, fun j hj hn => ?_, ?_⟩
  · rw [k.block j (Nat.lt_of_lt_of_le hj h.size) ?_]
    · exact h.block j hj hn
    · rcases h.own with e | ⟨o, e, ho⟩
      · rw [e]; exact hn
      · rw [e]; intro hh; cases hh; omega
  · rcases k.own with e | ⟨o, e, ho⟩
    · rw [e]
      exact h.own
    · exact .inr ⟨o, e, Nat.le_trans h.size ho⟩
theorem Gr.below {B : Nat} {v v' : Value} {w w' : World} (h : Gr v w v' w') (hr : ∀ k, v.ownBlock = some k → B ≤ k) (hB : B ≤ w.heap.size) : Below B w w' :=
  ⟨h.os, h.tape, h.output, h.size, fun k hk => h.block k (by omega) (fun e => by have := hr k e.symm; omega)⟩
/-- What is new behind the list's growing stays. -/
theorem Gr.alloc {v : Value} {w : World} (o : Obj) : Gr v w v (w.alloc o) := by
  refine ⟨rfl, rfl, rfl, by simp, fun k hk _ => heap_alloc_old _ _ hk, .inl rfl⟩
theorem Gr.drew {v v' : Value} {w w' : World} (h : Gr v w v' w') : Gr v w v' w'.drew := ⟨h.os, h.tape, h.output, h.size, h.block, h.own⟩
theorem NewB.keep {B : Nat} {w w' : World} {v : Value} {l : List Int} (h : NewB B w v l) (hb : Below w.heap.size w w') : NewB B w' v l := ownsRow_keep h hb
end Go.Proofs.Ytpmcipnookjmgaa
namespace Go.Proofs.Ytpmcipnookjmgaa
open Go.RowKit
set_option linter.unusedVariables false
set_option linter.unusedSimpArgs false
theorem own_lt {B : Nat} {w : World} {e : TypeId} {sz : Nat} {v : Value} {n : Nat} {xs : List Value} (h : w.ownsRow B e sz v n xs) {g : Nat} (hg : v.ownBlock = some g) : g < w.heap.size := by
  obtain ⟨h1, h2⟩ := h
  rcases h2 with ⟨rfl, _⟩ | ⟨g', cap, cur, rfl, hB, hh, _⟩
  · simp [Value.ownBlock] at hg
  · simp [Value.ownBlock] at hg
    subst hg
    exact lt_of_heapA hh
theorem Piece.grown {B C : Nat} {w w' : World} {u : Value} {m : List Int} {row : Option Nat} (h : Piece B C w u m) (hg : w.grownBy w' row) (hn : ∀ g, row = Option.some g → NotAt g u) : Piece B C w' u m := by
  obtain ⟨a, c, rfl, hle, h⟩ := h
  refine ⟨a, c, rfl, hle, ?_⟩
  rcases h with rfl | ⟨g, off, cur, t, rfl, h1, h2, hh, r⟩
  · exact .inl rfl
  · by_cases h0 : m.length = 0
    · exact .inl (List.eq_nil_of_length_eq_zero h0)
    · refine .inr ⟨g, off, cur, t, rfl, h1, h2, ?_, r⟩
      rw [hg.block g (lt_of_heapA hh) (fun e => h0 (hn g e.symm off m.length c rfl))]
      exact hh
theorem Piece.notAt {B C g : Nat} {w : World} {u : Value} {m : List Int} (h : Piece B C w u m) (hg : g < B ∨ C ≤ g) : NotAt g u := by
  obtain ⟨a, c, rfl, _, h⟩ := h
  intro off n c' e
  cases e
  rcases h with rfl | ⟨g', off, cur, t, e, h1, h2, _⟩
  · rfl
  · cases e; omega
theorem getD_app {α : Type} (xs ys : List α) (j : Nat) (d : α) : (xs ++ ys).getD j d = if j < xs.length then xs.getD j d else ys.getD (j - xs.length) d := by
  simp only [List.getD, List.getElem?_append]
  split <;> rfl
end Go.Proofs.Ytpmcipnookjmgaa
namespace Go.Proofs.Ytpmcipnookjmgaa
open Go.RowKit
set_option linter.unusedVariables false
set_option linter.unusedSimpArgs false
/-- Told, and all of it lies from block lo on and below hi. -/
def InsW (lo hi : Nat) (w : World) (v : Value) (n : Nat) (E : Nat → Nat → Int) (N : Nat → List Int) : Prop :=
  ∃ a c, v = .slice a n c ∧ (n = 0 ∨ ∃ (o off : Nat) (A : Array Value) (t : TypeId) (x : Nat → Value), a = some ⟨o, off, none⟩ ∧ lo ≤ o ∧ o < hi ∧ w.heap[o]? = some (.cells A t (0, 0)) ∧ ∀ i, i < n →
    (A[off + i * 6]? = some (.int .i64 (E i 0)) ∧ A[off + i * 6 + 1]? = some (.int .i64 (E i 1)) ∧ A[off + i * 6 + 2]? = some (.int .i64 (E i 2)) ∧ A[off + i * 6 + 3]? = some (.int .i64 (E i 3)) ∧ A[off + i * 6 + 4]? = some (.int .i64 (E i 4)) ∧ A[off + i * 6 + 5]? = some (x i)) ∧ Piece lo hi w (x i) (N i))
section
variable {lo hi B C : Nat} {w w' : World} {v : Value} {n : Nat} {E : Nat → Nat → Int} {N : Nat → List Int}
theorem InsW.list (h : InsW lo hi w v n E N) : InsI w v n E N := by
  obtain ⟨a, c, rfl, h⟩ := h
  refine ⟨a, c, rfl, ?_⟩
  rcases h with h | ⟨o, off, A, t, x, e, h1, h2, h3, h4⟩
  · exact .inl h
  · refine .inr ⟨o, off, x, e, lt_of_heapA h3, fun i hi => ?_⟩
    obtain ⟨⟨q0, q1, q2, q3, q4, q5⟩, qz⟩ := h4 i hi
    exact ⟨⟨cell_at h3 q0, cell_at h3 q1, cell_at h3 q2, cell_at h3 q3, cell_at h3 q4, cell_at h3 q5⟩, qz.intsI⟩
theorem InsW.win (h : InsW lo hi w v n E N) (hw : Win B C w w') (hd : hi ≤ B ∨ C ≤ lo) : InsW lo hi w' v n E N := by
  obtain ⟨a, c, rfl, h⟩ := h
  refine ⟨a, c, rfl, ?_⟩
  rcases h with h | ⟨o, off, A, t, x, e, h1, h2, h3, h4⟩
  · exact .inl h
  · refine .inr ⟨o, off, A, t, x, e, h1, h2, by rw [hw.block o (lt_of_heapA h3) (by omega)]; exact h3, fun i hi => ?_⟩
    obtain ⟨q, qz⟩ := h4 i hi
    exact ⟨q, qz.win hw hd⟩
theorem InsW.keep (h : InsW lo hi w v n E N) (hb : Below w.heap.size w w') : InsW lo hi w' v n E N := by
  obtain ⟨a, c, rfl, h⟩ := h
  refine ⟨a, c, rfl, ?_⟩
  rcases h with h | ⟨o, off, A, t, x, e, h1, h2, h3, h4⟩
  · exact .inl h
  · refine .inr ⟨o, off, A, t, x, e, h1, h2, by rw [hb.block o (lt_of_heapA h3)]; exact h3, fun i hi => ?_⟩
    obtain ⟨q, qz⟩ := h4 i hi
    exact ⟨q, qz.keep hb⟩
theorem InsW.mono {lo' : Nat} (h : InsW lo hi w v n E N) (hl : lo' ≤ lo) : InsW lo' hi w v n E N := by
  obtain ⟨a, c, rfl, h⟩ := h
  refine ⟨a, c, rfl, ?_⟩
  rcases h with h | ⟨o, off, A, t, x, e, h1, h2, h3, h4⟩
  · exact .inl h
  · refine .inr ⟨o, off, A, t, x, e, by omega, h2, h3, fun i hi => ?_⟩
    obtain ⟨q, qz⟩ := h4 i hi
    exact ⟨q, qz.mono hl (Nat.le_refl _)⟩
theorem InsW.nil (a : Option Addr) (c : Nat) : InsW lo hi w (.slice a 0 c) 0 E N := ⟨a, c, rfl, .inl rfl⟩
end
/-- A list that grows: its row is its own, from block B on; its lists lie from B on too, and not in the row's block. -/
def GIns (B : Nat) (w0 wr : World) (v : Value) (k : Nat) (E : Nat → Nat → Int) (N : Nat → List Int) : Prop :=
  ∃ (xs : List Value) (x : Nat → Value), wr.ownsRow B 46 6 v k xs ∧ (∀ i, i < k → (xs[i * 6]? = some (.int .i64 (E i 0)) ∧ xs[i * 6 + 1]? = some (.int .i64 (E i 1)) ∧ xs[i * 6 + 2]? = some (.int .i64 (E i 2)) ∧ xs[i * 6 + 3]? = some (.int .i64 (E i 3)) ∧ xs[i * 6 + 4]? = some (.int .i64 (E i 4)) ∧ xs[i * 6 + 5]? = some (x i)) ∧ Piece B wr.heap.size wr (x i) (N i) ∧ ∀ g, v.ownBlock = some g → NotAt g (x i)) ∧ Below B w0 wr ∧ B ≤ wr.heap.size
section
variable {B : Nat} {w0 wr w' : World} {v : Value} {k : Nat} {E : Nat → Nat → Int} {N : Nat → List Int}
theorem GIns.below (h : GIns B w0 wr v k E N) : Below B w0 wr := by obtain ⟨_, _, _, _, q, _⟩ := h; exact q
theorem GIns.keep (h : GIns B w0 wr v k E N) (hb : Below wr.heap.size wr w') : GIns B w0 w' v k E N := by
  obtain ⟨xs, x, h1, h2, h3, h4⟩ := h
  refine ⟨xs, x, ownsRow_keep h1 hb, fun i hi => ?_, h3.trans (hb.mono h4), Nat.le_trans h4 hb.size⟩
  obtain ⟨q1, q2, q3⟩ := h2 i hi
  exact ⟨q1, (q2.keep hb).mono (Nat.le_refl _) hb.size, q3⟩
theorem GIns.start (w : World) {B : Nat} (hB : B ≤ w.heap.size) (E : Nat → Nat → Int) (N : Nat → List Int) : GIns B w (w.alloc (.cells #[] 46)) (.slice (some ⟨w.heap.size, 0, none⟩) 0 0) 0 E N :=
  ⟨[], fun _ => undef, ⟨by simp, .inr ⟨w.heap.size, 0, #[], rfl, hB, heap_alloc_new w _, Nat.le_refl _, by unfold maxLen; omega, by simp, by simp⟩⟩, fun i hi => absurd hi (by omega), (bAlloc (Below.refl _ _) _).mono hB, by simp; omega⟩
theorem info_instrG : (Try.prog.info? 46).map (fun i => (i.zero, i.size, i.bytes)) = some (some (.agg #[.int .i64 0, .int .i64 0, .int .i64 0, .int .i64 0, .int .i64 0, .slice none 0 0]), 6, 64) := by kernel_rfl
/-- One more. -/
theorem GIns.grow {w2 : World} {xa : Option Addr} {xc : Nat} (h : GIns B w0 wr v k E N) (hb : Below wr.heap.size wr w2) {e : Nat → Int} (he : e = E k) (px : Piece wr.heap.size w2.heap.size w2 (.slice xa (N k).length xc) (N k)) (hk : k + 1 ≤ 1048576) :
    ∃ a' c' w3, (Builtin.append_ #[26, 26] 26 #[v, .slice (some ⟨w2.heap.size, 0, none⟩) 1 1]).run Try.prog (w2.alloc (.cells #[.int .i64 (e 0), .int .i64 (e 1), .int .i64 (e 2), .int .i64 (e 3), .int .i64 (e 4), .slice xa (N k).length xc] 46)) = .ok (.slice a' (k + 1) c') w3 ∧ GIns B w0 w3 (.slice a' (k + 1) c') (k + 1) E N ∧ Gr v w2 (.slice a' (k + 1) c') w3 := by
  subst he
  obtain ⟨i, hq, z1, z2, z3⟩ : ∃ i, Try.prog.info? 46 = some i ∧ i.zero = some (.agg #[.int .i64 0, .int .i64 0, .int .i64 0, .int .i64 0, .int .i64 0, .slice none 0 0]) ∧ i.size = 6 ∧ i.bytes = 64 := by
    have hi := info_instrG
    cases hq : Try.prog.info? 46 with
    | none => rw [hq] at hi; cases hi
    | some i => rw [hq] at hi; simp at hi; exact ⟨i, rfl, hi.1, hi.2.1, hi.2.2⟩
  have hlt : ∀ g, v.ownBlock = some g → g < wr.heap.size := fun g hg => by obtain ⟨xs, x, h1, _⟩ := h; exact own_lt h1 hg
  obtain ⟨xs, x, h1, h2, h3, h4⟩ := h
  have hz := hb.size
  have hba : Below wr.heap.size wr (w2.alloc (.cells #[.int .i64 (E k 0), .int .i64 (E k 1), .int .i64 (E k 2), .int .i64 (E k 3), .int .i64 (E k 4), .slice xa (N k).length xc] 46)) := bAlloc hb _
  have hnew := heap_alloc_new w2 (.cells #[.int .i64 (E k 0), .int .i64 (E k 1), .int .i64 (E k 2), .int .i64 (E k 3), .int .i64 (E k 4), .slice xa (N k).length xc] 46)
  have hsz : (w2.alloc (.cells #[.int .i64 (E k 0), .int .i64 (E k 1), .int .i64 (E k 2), .int .i64 (E k 3), .int .i64 (E k 4), .slice xa (N k).length xc] 46)).heap.size = w2.heap.size + 1 := by simp
  have hpx := px.keep (bAlloc (Below.refl w2.heap.size w2) (.cells #[.int .i64 (E k 0), .int .i64 (E k 1), .int .i64 (E k 2), .int .i64 (E k 3), .int .i64 (E k 4), .slice xa (N k).length xc] 46))
  have hw2 : Below w2.heap.size w2 (w2.alloc (.cells #[.int .i64 (E k 0), .int .i64 (E k 1), .int .i64 (E k 2), .int .i64 (E k 3), .int .i64 (E k 4), .slice xa (N k).length xc] 46)) := bAlloc (Below.refl _ _) _
  generalize w2.alloc (.cells #[.int .i64 (E k 0), .int .i64 (E k 1), .int .i64 (E k 2), .int .i64 (E k 3), .int .i64 (E k 4), .slice xa (N k).length xc] 46) = wa at *
  have hl := h1.1
  obtain ⟨v', w', hr, g2, g3, _, g5⟩ := run_append_own_at (P := Try.prog) wa B 26 26 46 i _ 6 64 Try.underlying26 hq z1 z2 z3 rfl (by decide) v k xs (ownsRow_keep h1 hba) ⟨w2.heap.size, 0, none⟩ 1 1 [.int .i64 (E k 0), .int .i64 (E k 1), .int .i64 (E k 2), .int .i64 (E k 3), .int .i64 (E k 4), .slice xa (N k).length xc] (by simp)
    (by
      intro j u hj
      have e : (⟨w2.heap.size, 0, none⟩ : Addr).add j = ⟨w2.heap.size, j, none⟩ := by unfold Addr.add; split <;> simp_all
      rw [e]
      exact cell_at hnew (by simpa using hj))
    (by intro u hu; simp at hu; rcases hu with rfl | rfl | rfl | rfl | rfl | rfl <;> rfl) (by unfold maxLen; omega) (by omega) (by omega)
  obtain ⟨a', c', rfl⟩ : ∃ a' c', v' = .slice a' (k + 1) c' := by
    rcases g2.2 with ⟨e, h0⟩ | ⟨g, cap, cur, e, _⟩
    · omega
    · exact ⟨_, _, e⟩
  have gz := g3.size
  have hga : ∀ g, (Value.slice a' (k + 1) c').ownBlock = some g → v.ownBlock = some g ∨ g = wa.heap.size := fun g hg => by
    rcases g5 with e | e
    · exact .inl (by rw [← e]; exact hg)
    · rw [e] at hg; cases hg; exact .inr rfl
  refine ⟨a', c', w', hr, ⟨xs ++ [.int .i64 (E k 0), .int .i64 (E k 1), .int .i64 (E k 2), .int .i64 (E k 3), .int .i64 (E k 4), .slice xa (N k).length xc], fun i => if i = k then .slice xa (N k).length xc else x i, g2, fun i hi => ?_, ?_, by omega⟩, ⟨?_, ?_, ?_, by omega, fun j hj hn => ?_, ?_⟩⟩
  · by_cases e : i = k
    · subst e
      simp only [if_true]
      refine ⟨⟨?_, ?_, ?_, ?_, ?_, ?_⟩, ?_, fun g hg => ?_⟩
      · rw [List.getElem?_append_right (by omega), show i * 6 - xs.length = 0 by omega]; rfl
      · rw [List.getElem?_append_right (by omega), show i * 6 + 1 - xs.length = 1 by omega]; rfl
      · rw [List.getElem?_append_right (by omega), show i * 6 + 2 - xs.length = 2 by omega]; rfl
      · rw [List.getElem?_append_right (by omega), show i * 6 + 3 - xs.length = 3 by omega]; rfl
      · rw [List.getElem?_append_right (by omega), show i * 6 + 4 - xs.length = 4 by omega]; rfl
      · rw [List.getElem?_append_right (by omega), show i * 6 + 5 - xs.length = 5 by omega]; rfl
      · exact (hpx.grown g3 fun g hg => px.notAt (.inl (hlt g hg))).mono (by omega) (by omega)
      · rcases hga g hg with q | q
        · exact px.notAt (.inl (hlt g q))
        · exact px.notAt (.inr (by omega))
    · obtain ⟨⟨q0, q1, q2, q3, q4, q5⟩, qz, qn⟩ := h2 i (by omega)
      simp only [if_neg e]
      refine ⟨⟨?_, ?_, ?_, ?_, ?_, ?_⟩, ?_, fun g hg => ?_⟩
      · rw [List.getElem?_append_left (by omega)]; exact q0
      · rw [List.getElem?_append_left (by omega)]; exact q1
      · rw [List.getElem?_append_left (by omega)]; exact q2
      · rw [List.getElem?_append_left (by omega)]; exact q3
      · rw [List.getElem?_append_left (by omega)]; exact q4
      · rw [List.getElem?_append_left (by omega)]; exact q5
      · exact (((qz.keep hba).grown g3 qn).mono (Nat.le_refl _) (by omega))
      · rcases hga g hg with q | q
        · exact qn g q
        · exact qz.notAt (.inr (by omega))
  · exact h3.trans ((hba.mono h4).trans ⟨g3.os, g3.tape, g3.output, g3.size, fun j hj => g3.block j (by omega) fun e => by
      have hB : ∀ g, v.ownBlock = some g → B ≤ g := fun g hg => by
        rcases h1.2 with ⟨rfl, _⟩ | ⟨g', cap, cur, rfl, hB, _⟩
        · simp [Value.ownBlock] at hg
        · simp [Value.ownBlock] at hg; omega
      have := hB j e.symm
      omega⟩)
  · exact g3.os.trans hw2.os
  · exact g3.tape.trans hw2.tape
  · exact g3.output.trans hw2.output
  · exact (g3.block j (by omega) hn).trans (hw2.block j hj)
  · rcases g5 with e | e
    · exact .inl e
    · exact .inr ⟨_, e, by omega⟩
theorem GIns.insW (h : GIns B w0 wr v k E N) : InsW B wr.heap.size wr v k E N := by
  obtain ⟨xs, x, h1, h2, h3, h4⟩ := h
  rcases h1.2 with ⟨rfl, rfl⟩ | ⟨g, cap, cur, rfl, hB, hg, hc, hm, hs, ht⟩
  · exact ⟨none, 0, rfl, .inl rfl⟩
  · refine ⟨_, cap, rfl, .inr ⟨g, 0, cur, _, x, rfl, hB, lt_of_heapA hg, hg, fun i hi => ?_⟩⟩
    have q : ∀ m, m < k * 6 → cur[0 + m]? = xs[m]? := fun m hm => by
      rw [← ht, List.getElem?_take_of_lt hm, Nat.zero_add]; simp
    obtain ⟨⟨r0, r1, r2, r3, r4, r5⟩, qz, _⟩ := h2 i hi
    have q' : ∀ m j, m = i * 6 + j → j < 6 → cur[0 + i * 6 + j]? = xs[m]? := fun m j e hj => by rw [← q m (by omega), e, Nat.add_assoc]
    exact ⟨⟨(q' _ 0 rfl (by decide)).trans r0, (q' _ 1 rfl (by decide)).trans r1, (q' _ 2 rfl (by decide)).trans r2, (q' _ 3 rfl (by decide)).trans r3, (q' _ 4 rfl (by decide)).trans r4, (q' _ 5 rfl (by decide)).trans r5⟩, qz⟩
end
/-- None, or one's own. -/
def OwnVInsI (lo hi : Nat) (w : World) (v : Value) (n : Nat) (E : Nat → Nat → Int) (N : Nat → List Int) : Prop :=
  (n = 0 ∧ ∃ a c, v = .slice a 0 c) ∨ ∃ o, v = .slice (some ⟨o, 0, none⟩) n n ∧ lo ≤ o ∧ OwnInsI o hi n n w E N
section
variable {lo hi B C : Nat} {w w' : World} {v : Value} {n : Nat} {E : Nat → Nat → Int} {N : Nat → List Int}
theorem OwnVInsI.nil (a : Option Addr) (c : Nat) : OwnVInsI lo hi w (.slice a 0 c) 0 E N := .inl ⟨rfl, a, c, rfl⟩
theorem OwnVInsI.slice (h : OwnVInsI lo hi w v n E N) : ∃ a c, v = .slice a n c := by
  rcases h with ⟨rfl, a, c, rfl⟩ | ⟨o, rfl, _⟩
  · exact ⟨a, c, rfl⟩
  · exact ⟨_, _, rfl⟩
theorem OwnVInsI.list (h : OwnVInsI lo hi w v n E N) : InsI w v n E N := by
  rcases h with ⟨rfl, a, c, rfl⟩ | ⟨o, rfl, _, h⟩
  · exact ⟨a, c, rfl, .inl rfl⟩
  · exact h.list
theorem OwnVInsI.keep (h : OwnVInsI lo hi w v n E N) (hb : Below w.heap.size w w') : OwnVInsI lo hi w' v n E N := by
  rcases h with h | ⟨o, e, ho, h⟩
  · exact .inl h
  · exact .inr ⟨o, e, ho, h.keep hb⟩
theorem OwnVInsI.win (h : OwnVInsI lo hi w v n E N) (hw : Win B C w w') (hd : hi ≤ B ∨ C ≤ lo) : OwnVInsI lo hi w' v n E N := by
  rcases h with h | ⟨o, e, ho, h⟩
  · exact .inl h
  · exact .inr ⟨o, e, ho, h.win hw (by omega)⟩
theorem markInstrS_nil (a : Option Addr) (c : Nat) (k0 : Int) (w : World) :
    Calls Try.prog 11 #[.slice a 0 c, .int .i64 k0] w fun e w' => e = .returned (.int .i64 k0) ∧ w' = w := by
  go_enter Try.func11, Try.ntmps11
  go_wp2
  refine wp_loop_rounds 1 ?_
  rw [rounds_succ]
  go_wp2
  go_ret
  exact ⟨rfl, rfl⟩
theorem heldInstrS_nil (a : Option Addr) (c : Nat) (k0 : Int) (w : World) :
    Calls Try.prog 12 #[.slice a 0 c, .int .i64 k0] w fun e w' => e = .returned (.int .i64 k0) ∧ w' = w := by
  go_enter Try.func12, Try.ntmps12
  go_wp2
  refine wp_loop_rounds 1 ?_
  rw [rounds_succ]
  go_wp2
  go_ret
  exact ⟨rfl, rfl⟩
theorem OwnVInsI.mark (h : OwnVInsI lo hi w v n E N) (hl : ∀ i, (N i).length ≤ 1048576) (hn : n ≤ 1048576) (k0 : Int) (p1 : 0 ≤ k0) (p2 : k0 ≤ 1099511627776) :
    Calls Try.prog 11 #[v, .int .i64 k0] w fun e w' => e = .returned (.int .i64 (k0 + (totN 5 N n : Int))) ∧ (∃ E' N', OwnVInsI lo hi w' v n E' N' ∧ MkdInsI k0 N n E' N') ∧ Win lo hi w w' := by
  rcases h with ⟨rfl, a, c, rfl⟩ | ⟨o, rfl, ho, h⟩
  · refine (markInstrS_nil a c k0 w).mono ?_
    rintro e w' ⟨rfl, rfl⟩
    exact ⟨by simp [totN], ⟨E, N, .inl ⟨rfl, a, c, rfl⟩, fun i hi => absurd hi (by omega)⟩, Win.refl _ _ _⟩
  · refine (markInstrS_at h hl hn k0 p1 p2).mono ?_
    rintro e w' ⟨rfl, ⟨E', N', h1, h2⟩, hw⟩
    exact ⟨rfl, ⟨E', N', .inr ⟨o, rfl, ho, h1⟩, h2⟩, ⟨hw.os, hw.tape, hw.output, hw.size, fun k hk hd => hw.block k hk (by omega)⟩⟩
theorem OwnVInsI.held {N0 : Nat → List Int} (h : OwnVInsI lo hi w v n E N) (k0 : Int) (hm : MkdInsI k0 N0 n E N) (hl : ∀ i, (N0 i).length ≤ 1048576) (hn : n ≤ 1048576) (hT : totN 5 N0 n ≤ 1073741824) (p1 : 0 ≤ k0) (p2 : k0 ≤ 1073741824) :
    Calls Try.prog 12 #[v, .int .i64 k0] w fun e w' => e = .returned (.int .i64 (k0 + (totN 5 N0 n : Int))) ∧ w' = w := by
  rcases h with ⟨rfl, a, c, rfl⟩ | ⟨o, rfl, ho, h⟩
  · refine (heldInstrS_nil a c k0 w).mono ?_
    rintro e w' ⟨rfl, rfl⟩
    exact ⟨by simp [totN], rfl⟩
  · exact heldInstrS_at k0 h hm hl hn hT p1 p2
end
end Go.Proofs.Ytpmcipnookjmgaa
namespace Go.Proofs.Ytpmcipnookjmgaa
open Go.RowKit
set_option linter.unusedVariables false
set_option linter.unusedSimpArgs false
set_option maxRecDepth 20000 in
set_option maxHeartbeats 8000000 in
theorem node0_spec {e0 e1 e2 e3 e4 e5 : Int} {n : Nat} {w : World} {xa oa : Option Addr} {xc oc k : Nat} (h1 : e0 ≠ 1) (h2 : e0 ≠ 2) (h3 : e0 ≠ 3) (h4 : e0 ≠ 4) (h5 : e0 ≠ 5) : Calls Try.prog 25 #[.agg #[.int .i64 e0, .int .i64 e1, .int .i64 e2, .int .i64 e3, .int .i64 e4, .int .i64 e5, .slice xa n xc], .int .i64 (k : Int), .slice oa k oc] w fun r w' => r = .returned (.tuple #[.int .i64 0, .bool false]) ∧ Below w.heap.size w w' := by
  have b1 : (e0 == 1) = false := by simpa using h1
  have b2 : (e0 == 2) = false := by simpa using h2
  have b3 : (e0 == 3) = false := by simpa using h3
  have b4 : (e0 == 4) = false := by simpa using h4
  have b5 : (e0 == 5) = false := by simpa using h5
  clear h1 h2 h3 h4 h5
  go_enter Try.func25, Try.ntmps25
  go_wp2
  go_ret2
  exact ⟨rfl, two_below⟩
/-- What l9Node answers. -/
def NodePost (w : World) (k : Nat) (e : Nat → Int) (o l : List Int) (r : Ending) (w' : World) : Prop :=
  ∃ x : Int, r = .returned (.tuple #[.int .i64 x, .bool (heldB k e o && nodeB e l)]) ∧ ((heldB k e o && nodeB e l) = true → x = ownOf k e o) ∧ Below w.heap.size w w'
theorem NodePost.good {w : World} {k : Nat} {e : Nat → Int} {o l : List Int} {x : Int} {b : Bool} {f : FuncId} {args : Array Value} (hb : (heldB k e o && nodeB e l) = b) (hx : ownOf k e o = x) (h : Calls Try.prog f args w fun r w' => r = .returned (.tuple #[.int .i64 x, .bool b]) ∧ Below w.heap.size w w') : Calls Try.prog f args w fun r w' => NodePost w k e o l r w' := by
  refine h.mono ?_
  rintro r w' ⟨rfl, hbl⟩
  exact ⟨x, by rw [hb], fun _ => hx.symm, hbl⟩
theorem NodePost.bad {w : World} {k : Nat} {e : Nat → Int} {o l : List Int} {x : Int} {f : FuncId} {args : Array Value} (hb : heldB k e o = false) (h : Calls Try.prog f args w fun r w' => r = .returned (.tuple #[.int .i64 x, .bool false]) ∧ Below w.heap.size w w') : Calls Try.prog f args w fun r w' => NodePost w k e o l r w' := by
  have hz : (heldB k e o && nodeB e l) = false := by rw [hb]; rfl
  refine h.mono ?_
  rintro r w' ⟨rfl, hbl⟩
  exact ⟨x, by rw [hz], fun h => absurd h (by rw [hz]; decide), hbl⟩
theorem heldB3 {k : Nat} {e : Nat → Int} {o : List Int} (h : e 0 = 3 ∨ e 0 = 4) : heldB k e o = (decide (1 ≤ k) && decide (e 2 = (k : Int) - 1)) := by unfold heldB; rw [if_pos h]
theorem heldB5 {k : Nat} {e : Nat → Int} {o : List Int} (h : e 0 = 5) : heldB k e o = (decide (2 ≤ k) && decide (e 1 = (k : Int) - 1) && decide (e 2 = (k : Int) - 1 - o.getD (k - 1) 0) && decide (0 ≤ e 2)) := by unfold heldB; rw [if_neg (by omega), if_pos h]
theorem heldB0 {k : Nat} {e : Nat → Int} {o : List Int} (h3 : e 0 ≠ 3) (h4 : e 0 ≠ 4) (h5 : e 0 ≠ 5) : heldB k e o = true := by unfold heldB; rw [if_neg (fun h => h.elim h3 h4), if_neg h5]
set_option maxHeartbeats 2000000 in
/-- The specification's l9Node. -/
theorem node_spec (e : Nat → Int) {l o : List Int} {w : World} {xa oa : Option Addr} {xc oc k : Nat} (h : IntsI w (.slice xa l.length xc) l) (hl : l.length ≤ 1048576) (ho : Ints w oa o) (hk : o.length = k) (h60 : k ≤ 60) (hall : ∀ i, i < k → 1 ≤ o.getD i 0 ∧ o.getD i 0 ≤ 60) :
    Calls Try.prog 25 #[.agg #[.int .i64 (e 0), .int .i64 (e 1), .int .i64 (e 2), .int .i64 (e 3), .int .i64 (e 4), .int .i64 (e 5), .slice xa l.length xc], .int .i64 (k : Int), .slice oa k oc] w fun r w' => NodePost w k e o l r w' := by
  by_cases h1 : e 0 = 1
  · rw [h1]
    refine NodePost.good ?_ ?_ (node1_spec h hl)
    · rw [heldB0 (by omega) (by omega) (by omega), Bool.true_and]; unfold nodeB; rw [if_pos h1]
    · unfold ownOf; rw [if_pos (.inl h1)]
  by_cases h2 : e 0 = 2
  · rw [h2]
    refine NodePost.good ?_ ?_ node2_spec
    · rw [heldB0 (by omega) (by omega) (by omega), Bool.true_and]; unfold nodeB; rw [if_neg h1, if_pos h2]
    · unfold ownOf; rw [if_pos (.inr h2)]
  by_cases h3 : e 0 = 3
  · rw [h3]
    cases k with
    | zero => exact NodePost.bad (by rw [heldB3 (.inl h3)]; rfl) node3_first
    | succ K =>
      rw [show ((K + 1 : Nat) : Int) = (K : Int) + 1 from rfl]
      by_cases hb : e 2 = (K : Int)
      · rw [hb]
        refine NodePost.good ?_ ?_ (node3_good ho hk rfl (hall K (by omega)).1 (hall K (by omega)).2 (by omega))
        · rw [heldB3 (.inl h3), decide_eq_true (by omega : 1 ≤ K + 1), decide_eq_true (by omega : e 2 = ((K + 1 : Nat) : Int) - 1), Bool.true_and, Bool.true_and]; unfold nodeB; rw [if_neg h1, if_neg h2, if_pos h3]
        · unfold ownOf; rw [if_neg (by omega), if_pos (.inl h3), Nat.add_sub_cancel]
      · exact NodePost.bad (by rw [heldB3 (.inl h3), decide_eq_false (by omega : ¬ e 2 = ((K + 1 : Nat) : Int) - 1), Bool.and_false]) (node3_bad (by omega) hb)
  by_cases h4 : e 0 = 4
  · rw [h4]
    cases k with
    | zero => exact NodePost.bad (by rw [heldB3 (.inr h4)]; rfl) node4_first
    | succ K =>
      rw [show ((K + 1 : Nat) : Int) = (K : Int) + 1 from rfl]
      by_cases hb : e 2 = (K : Int)
      · rw [hb]
        refine NodePost.good ?_ ?_ (node4_good ho hk rfl (hall K (by omega)).1 (hall K (by omega)).2 (by omega))
        · rw [heldB3 (.inr h4), decide_eq_true (by omega : 1 ≤ K + 1), decide_eq_true (by omega : e 2 = ((K + 1 : Nat) : Int) - 1), Bool.true_and, Bool.true_and]; unfold nodeB; rw [if_neg h1, if_neg h2, if_neg h3, if_pos h4]
        · unfold ownOf; rw [if_neg (by omega), if_pos (.inr h4), Nat.add_sub_cancel]
      · exact NodePost.bad (by rw [heldB3 (.inr h4), decide_eq_false (by omega : ¬ e 2 = ((K + 1 : Nat) : Int) - 1), Bool.and_false]) (node4_bad (by omega) hb)
  by_cases h5 : e 0 = 5
  · rw [h5]
    by_cases hk2 : 2 ≤ k
    · obtain ⟨K, rfl⟩ : ∃ K, k = K + 1 := ⟨k - 1, by omega⟩
      rw [show ((K + 1 : Nat) : Int) = (K : Int) + 1 from rfl]
      obtain ⟨X, hX⟩ : ∃ X, o.getD K 0 = X := ⟨_, rfl⟩
      have x1 := hX ▸ (hall K (by omega)).1
      have x2 := hX ▸ (hall K (by omega)).2
      have HB : heldB (K + 1) e o = (decide (e 1 = (K : Int)) && decide (e 2 = (K : Int) - X) && decide (0 ≤ e 2)) := by
        rw [heldB5 h5, decide_eq_true hk2, Bool.true_and, Nat.add_sub_cancel, hX, show ((K + 1 : Nat) : Int) - 1 = (K : Int) by omega]
      by_cases ha : e 1 = (K : Int)
      · rw [ha]
        by_cases hb : e 2 = (K : Int) - X
        · by_cases hc : 0 ≤ e 2
          · obtain ⟨Bn, hBn⟩ : ∃ Bn : Nat, e 2 = (Bn : Int) := ⟨(e 2).toNat, by omega⟩
            obtain ⟨Y, hY⟩ : ∃ Y, o.getD Bn 0 = Y := ⟨_, rfl⟩
            have y1 := hY ▸ (hall Bn (by omega)).1
            have y2 := hY ▸ (hall Bn (by omega)).2
            rw [hBn]
            refine NodePost.good ?_ ?_ (node5_good ho hk hX x1 x2 (by omega) (by omega) (by omega) hY y1 y2)
            · rw [HB, decide_eq_true ha, decide_eq_true hb, decide_eq_true hc]; unfold nodeB; rw [if_neg h1, if_neg h2, if_neg h3, if_neg h4, if_pos h5]; rfl
            · unfold ownOf; rw [if_neg (by omega), if_neg (by omega), ha, hBn, Int.toNat_natCast, Int.toNat_natCast, hX, hY]
          · exact NodePost.bad (by rw [HB, decide_eq_false hc, Bool.and_false]) (node5_bad3 ho hk hX x1 x2 (by omega) (by omega) hb (by omega))
        · exact NodePost.bad (by rw [HB, decide_eq_false hb, Bool.and_false, Bool.false_and]) (node5_bad2 ho hk hX x1 x2 (by omega) (by omega) hb)
      · exact NodePost.bad (by rw [HB, decide_eq_false ha, Bool.false_and, Bool.false_and]) (node5_bad1 (by omega) (by omega) ha)
    · have hz : heldB k e o = false := by rw [heldB5 h5, decide_eq_false hk2, Bool.false_and, Bool.false_and, Bool.false_and]
      by_cases hk0 : k = 0
      · subst hk0; exact NodePost.bad hz node5_first0
      · obtain rfl : k = 1 := by omega
        exact NodePost.bad hz node5_first1
  refine (node0_spec h1 h2 h3 h4 h5).mono ?_
  rintro r w' ⟨rfl, hbl⟩
  have hz : (heldB k e o && nodeB e l) = false := by
    have : nodeB e l = false := by unfold nodeB; rw [if_neg h1, if_neg h2, if_neg h3, if_neg h4, if_neg h5]
    rw [this, Bool.and_false]
  exact ⟨0, by rw [hz], fun h => absurd h (by rw [hz]; decide), hbl⟩
end Go.Proofs.Ytpmcipnookjmgaa
namespace Go.Proofs.Ytpmcipnookjmgaa
open Go.RowKit
set_option linter.unusedVariables false
set_option linter.unusedSimpArgs false
theorem upTo_all {E : Nat → Nat → Int} {N : Nat → List Int} {k : Nat} (h : upTo E N k) (hk : k ≤ 60) : ∀ i, i < k → 1 ≤ (ownS E k).getD i 0 ∧ (ownS E k).getD i 0 ≤ 60 := fun i hi => by
  have ht := upTo_top (k := i + 1) (fun j hj => h j (by omega)) (by omega)
  rw [Nat.add_sub_cancel, ownS_at E (by omega : i < i + 1)] at ht
  rw [ownS_at E hi]
  omega
set_option maxRecDepth 20000 in
set_option maxHeartbeats 8000000 in
/-- The specification's TreeOk. -/
theorem treeOk_spec {w : World} {v : Value} {n : Nat} {E : Nat → Nat → Int} {N : Nat → List Int} (h : ExprsI w v n E N) (hl : ∀ i, (N i).length ≤ 1048576) (hn : n ≤ 1048576) :
    Calls Try.prog 14 #[.agg #[v]] w fun r w' => r = .returned (.bool (treeB n E N)) ∧ Below w.heap.size w w' := by
  have H : Hid (ExprsI w v n E N) := h
  have HL : Hid (∀ i, (N i).length ≤ 1048576) := hl
  clear hl
  obtain ⟨a, c, rfl, _⟩ := h
  by_cases hc : 1 ≤ n ∧ n ≤ 60
  · have hq : (decide ((1 : Int) ≤ (n : Int)) && decide ((n : Int) ≤ 60)) = true := by simp; omega
    have GD : Hid (upTo E N n → treeB n E N = decide ((ownS E n).getD (n - 1) 0 = (n : Int))) := fun h1 => by
      by_cases h3 : (ownS E n).getD (n - 1) 0 = (n : Int)
      · rw [decide_eq_true h3]; exact treeB_true ⟨hc.1, hc.2, h1, (upTo_end h1 hc.1).2 h3⟩
      · rw [decide_eq_false h3]; exact treeB_false fun h => h3 ((upTo_end h1 hc.1).1 h.2.2.2)
    have BD : Hid (∀ k, k < n → upTo E N k → (heldB k (E k) (ownS E k) && nodeB (E k) (N k)) = false → treeB n E N = false) := fun k hk hu h => treeB_false fun g => by
      have g1 := g.2.2.1 k hk
      have g2 := upTo_held hu g1.1
      rw [← g2, g1.1, g1.2] at h
      exact absurd h (by decide)
    generalize treeB n E N = Q at *
    have hc1 := hc.1
    have hc2 := hc.2
    clear hc
    go_enter Try.func14, Try.ntmps14
    go_wp2_with fail
    refine (in_spec _ _ _ _).mono ?_
    rintro r w1 ⟨rfl, hw⟩
    subst w1
    rw [hq]
    go_wp2_with fail
    generalize hW : w.alloc (.cells #[.slice a n c] 31) = W0
    have hb0 := heap_alloc_new w (.cells #[.slice a n c] 31)
    rw [hW] at hb0
    have B0 : Hid (Below w.heap.size w W0) := by rw [← hW]; exact one_below
    have BX : Hid (∀ W, Below W0.heap.size W0 W → W.cell? ⟨w.heap.size, 0, none⟩ = some (.slice a n c)) := fun W hb => (hb.cell (p := ⟨w.heap.size, 0, none⟩) (lt_of_heapA hb0)).trans (cell_at hb0 rfl)
    have SZ : W0.heap.size = w.heap.size + 1 := by rw [← hW]; simp
    clear hW hb0
    generalize hW : W0.alloc (.cells #[] 3) = W1
    have N0 : Hid (NewInts W0.heap.size W1 (.slice (some ⟨w.heap.size + 1, 0, none⟩) 0 0) (ownS E 0)) := by rw [← hW, ← SZ]; exact newInts_alloc W0 [] (Nat.le_refl _) (by simp)
    have B1 : Hid (Below W0.heap.size W0 W1) := by rw [← hW]; exact one_below
    clear hW SZ
    go_loopw [4, 5] (fun u i w' => ∃ (k : Nat) (ad : Option Addr) (cd : Nat), k ≤ n ∧ u = .slice ad k cd ∧ i = .int .i64 (k : Int) ∧ upTo E N k ∧ NewInts W0.heap.size w' (.slice ad k cd) (ownS E k) ∧ Below W0.heap.size W0 w') (fun _ i _ => n - (intOf i).toNat)
    case atStart => exact ⟨0, _, _, by omega, rfl, rfl, fun i hi => absurd hi (by omega), N0.out, B1.out⟩
    case round =>
      obtain ⟨k, ad, cd, hk, rfl, rfl, hA, hN, hB⟩ := hrel
      have HA : Hid (upTo E N k) := hA
      have NK : Hid (NewInts W0.heap.size wr (.slice ad k cd) (ownS E k)) := hN
      have BK : Hid (Below W0.heap.size W0 wr) := hB
      have cb := BX.out _ hB
      clear hA hN hB N0 B1
      by_cases hlt : (k : Int) < (n : Int)
      · have L : k < n := by omega
        obtain ⟨o, off, xa, xc, rfl, ho, ⟨p0, p1, p2, p3, p4, p5, p6⟩, ar⟩ := (H.out.keep (bTrans B0.out BK.out)).at L
        have OI : Hid (Ints wr ad (ownS E k)) := by
          obtain ⟨_, _, ev, _, hi⟩ := NK.out.piece.intsI
          rw [ownS_len] at ev
          cases ev
          exact hi
        have CI : Hid (Calls Try.prog 25 #[.agg #[.int .i64 (E k 0), .int .i64 (E k 1), .int .i64 (E k 2), .int .i64 (E k 3), .int .i64 (E k 4), .int .i64 (E k 5), .slice xa (N k).length xc], .int .i64 (k : Int), .slice ad k cd] wr fun r w' => NodePost wr k (E k) (ownS E k) (N k) r w') := node_spec (E k) ar (HL.out k) OI.out (ownS_len E k) (by omega) (upTo_all HA.out (by omega))
        have NX : Hid ((heldB k (E k) (ownS E k) && nodeB (E k) (N k)) = true → upTo E N (k + 1)) := fun h i hi => by
          by_cases e : i = k
          · subst e
            simp only [Bool.and_eq_true] at h
            exact ⟨h.2, (upTo_held HA.out h.2).trans h.1⟩
          · exact HA.out i (by omega)
        have BY : Hid ((heldB k (E k) (ownS E k) && nodeB (E k) (N k)) = false → Q = false) := BD.out k L HA.out
        have EL : Hid (ownS E (k + 1) = ownS E k ++ [ownOf k (E k) (ownS E k)]) := rfl
        have LL : Hid ((ownS E k).length = k) := ownS_len E k
        clear ho ar OI
        unfold NodePost at CI
        generalize (heldB k (E k) (ownS E k) && nodeB (E k) (N k)) = q at *
        generalize ownOf k (E k) (ownS E k) = x0 at *
        generalize E k 0 = q0 at *
        generalize E k 1 = q1 at *
        generalize E k 2 = q2 at *
        generalize E k 3 = q3 at *
        generalize E k 4 = q4 at *
        generalize E k 5 = q5 at *
        generalize (N k).length = nl at *
        go_wp2_with fail
        refine CI.out.mono ?_
        rintro r w2 ⟨x, rfl, hx, hb⟩
        have HX : Hid (q = true → x = x0) := hx
        have B2 : Hid (Below W0.heap.size W0 w2) := bTrans BK.out hb
        have NK2 : Hid (NewInts W0.heap.size w2 (.slice ad k cd) (ownS E k)) := NK.out.keep hb
        clear hb hx
        cases q
        · have QF : Hid (Q = false) := BY.out rfl
          go_wp2
          go_ret
          exact ⟨by rw [QF.out]; rfl, bTrans B0.out B2.out⟩
        · have NY : Hid (upTo E N (k + 1)) := NX.out rfl
          obtain rfl : x = x0 := HX.out rfl
          clear NX BY HX
          obtain ⟨a5, c5, w5, hr, h5, hb5⟩ := grow1 x NK2.out B2.out.size (by rw [LL.out]; omega)
          rw [LL.out] at hr h5
          rw [← EL.out] at h5
          have R5 : Hid ((Builtin.append_ #[42, 42] 42 #[.slice ad k cd, .slice (some ⟨w2.heap.size, 0, none⟩) 1 1]).run Try.prog (w2.alloc (.cells #[.int .i64 x] 3)) = .ok (.slice a5 (k + 1) c5) w5) := hr
          have N5 : Hid (NewInts W0.heap.size w5 (.slice a5 (k + 1) c5) (ownS E (k + 1))) := h5
          have B5 : Hid (Below W0.heap.size W0 w5) := B2.out.trans hb5
          clear hr h5 hb5
          go_wp2_with (at_builtin; refine wpList_append_ty rfl _ _ 42 42 rfl _ _ _ rfl rfl R5.out ?_)
          go_roundw
          case rel => exact ⟨k + 1, _, _, by omega, rfl, by go_num, NY.out, N5.out, B5.out⟩
          case measure => simp [intOf]; omega
      · obtain rfl : k = n := by omega
        have QT : Hid (Q = decide ((ownS E k).getD (k - 1) 0 = (k : Int))) := GD.out HA.out
        obtain ⟨_, _, ev, _, hi⟩ := NK.out.piece.intsI
        rw [ownS_len] at ev
        cases ev
        obtain ⟨K, rfl⟩ : ∃ K, k = K + 1 := ⟨k - 1, by omega⟩
        obtain ⟨b1, o1, rfl, _, c1⟩ := hi.at (k := K) (by rw [ownS_len]; omega)
        rw [Nat.add_sub_cancel] at QT
        clear hi hlt
        generalize (ownS E (K + 1)).getD K 0 = X at *
        have gz : (0 : Int) ≤ (K : Int) := by omega
        have g4 : (K : Int) < ((K + 1 : Nat) : Int) := by omega
        have gv : IntKind.i64.wrap (K : Int) = (K : Int) := by rw [IntKind.wrap_i64]; omega
        go_wp2
        all_goals
          go_ret
          refine ⟨ret_bool ?_, bTrans B0.out BK.out⟩
          rw [QT.out]
          first | rfl | (simp; done) | (rw [Bool.eq_iff_iff]; simp)
  · have hq : (decide ((1 : Int) ≤ (n : Int)) && decide ((n : Int) ≤ 60)) = false := by
      cases hz : (decide ((1 : Int) ≤ (n : Int)) && decide ((n : Int) ≤ 60))
      · rfl
      · simp at hz; omega
    rw [treeB_false (fun h => hc ⟨h.1, h.2.1⟩)]
    clear hc
    go_enter Try.func14, Try.ntmps14
    go_wp2_with fail
    refine (in_spec _ _ _ _).mono ?_
    rintro r w1 ⟨rfl, hw⟩
    subst w1
    rw [hq]
    go_wp2
    go_ret
    exact ⟨rfl, one_below⟩
end Go.Proofs.Ytpmcipnookjmgaa
namespace Go.Proofs.Ytpmcipnookjmgaa
open Go.RowKit
set_option linter.unusedVariables false
set_option linter.unusedSimpArgs false
set_option maxRecDepth 20000 in
set_option maxHeartbeats 8000000 in
/-- The specification's Compile. -/
theorem compile_spec {w : World} {v : Value} {n : Nat} {E : Nat → Nat → Int} {N : Nat → List Int} (h : ExprsI w v n E N) (hl : ∀ i, (N i).length ≤ 1048576) (hn : n ≤ 1048576) :
    Calls Try.prog 5 #[.agg #[v]] w fun r w' => ∃ u, r = .returned (.tuple #[u, .bool (treeB n E N)]) ∧ InsW w.heap.size w'.heap.size w' u (if treeB n E N = true then n else 0) (insE E) (insN E N) ∧ Below w.heap.size w w' := by
  have H : Hid (ExprsI w v n E N) := h
  have HL : Hid (∀ i, (N i).length ≤ 1048576) := hl
  have CO : Hid (∀ W, Below w.heap.size w W → Calls Try.prog 14 #[.agg #[v]] W fun r w' => r = .returned (.bool (treeB n E N)) ∧ Below W.heap.size W w') := fun W hb => treeOk_spec (h.keep hb) hl hn
  obtain ⟨a, c, rfl, _⟩ := h
  clear hl
  cases hc : treeB n E N
  · rw [hc] at CO
    rw [if_neg (by decide)]
    clear hc
    go_enter Try.func5, Try.ntmps5
    go_wp2_with fail
    refine (CO.out _ (bAlloc (bAlloc (Below.refl _ _) _) _)).mono ?_
    rintro r w1 ⟨rfl, hb⟩
    have B1 : Hid (Below w.heap.size w w1) := bTrans (bAlloc (bAlloc (Below.refl _ _) _) _) hb
    clear hb CO
    go_wp2
    go_ret2
    exact ⟨_, rfl, InsW.nil _ _, B1.out⟩
  · rw [hc] at CO
    rw [if_pos rfl]
    have KI : Hid (∀ i, i < n → (E i 0 = 1 ∨ E i 0 = 2 ∨ E i 0 = 3 ∨ E i 0 = 4 ∨ E i 0 = 5)) := fun i hi => ((treeB_kind hc).2 i hi).1
    have n60 : n ≤ 60 := (treeB_kind hc).1
    clear hc
    go_enter Try.func5, Try.ntmps5
    go_wp2_with fail
    refine (CO.out _ (bAlloc (bAlloc (Below.refl _ _) _) _)).mono ?_
    rintro r w1 ⟨rfl, hb⟩
    have q := heap_alloc_new w (.cells #[.slice a n c] 31)
    have S0 := GIns.start (w.alloc (.cells #[.slice a n c] 31)) (Nat.le_refl _) (insE E) (insN E N)
    simp only [World.size_alloc] at S0
    have G1 : Hid (GIns (w.heap.size + 1) (w.alloc (.cells #[.slice a n c] 31)) w1 (.slice (some ⟨w.heap.size + 1, 0, none⟩) 0 0) 0 (insE E) (insN E N)) := S0.keep hb
    have BX : Hid (∀ W, Below (w.heap.size + 1) (w.alloc (.cells #[.slice a n c] 31)) W → W.cell? ⟨w.heap.size, 0, none⟩ = some (.slice a n c)) := fun W hW => (hW.cell (p := ⟨w.heap.size, 0, none⟩) (Nat.lt_succ_self _)).trans (cell_at q rfl)
    have BW : Hid (∀ W, Below (w.heap.size + 1) (w.alloc (.cells #[.slice a n c] 31)) W → Below w.heap.size w W) := fun W hW => (bAlloc (Below.refl _ _) _).trans (hW.mono (by omega))
    generalize w.alloc (.cells #[.slice a n c] 31) = W0 at *
    clear hb CO q S0
    go_wp2_with fail
    go_loopw [4, 5] (fun u i w' => ∃ (k : Nat) (a1 : Option Addr) (c1 : Nat), k ≤ n ∧ u = .slice a1 k c1 ∧ i = .int .i64 (k : Int) ∧ GIns (w.heap.size + 1) W0 w' (.slice a1 k c1) k (insE E) (insN E N)) (fun _ i _ => n - (intOf i).toNat)
    case atStart => exact ⟨0, _, _, by omega, rfl, rfl, G1.out⟩
    case round =>
      obtain ⟨k, a1, c1, hk, rfl, rfl, hG⟩ := hrel
      have GK : Hid (GIns (w.heap.size + 1) W0 wr (.slice a1 k c1) k (insE E) (insN E N)) := hG
      have x0 := BX.out wr hG.below
      clear hG G1
      by_cases hlt : (k : Int) < (n : Int)
      · have L : k < n := by omega
        obtain ⟨o, off, xa, xc, rfl, ho, ⟨p0, p1, p2, p3, p4, p5, p6⟩, ar⟩ := (H.out.keep (BW.out wr GK.out.below)).at L
        have AR : Hid (IntsI wr (.slice xa (N k).length xc) (N k)) := ar
        have ki := KI.out k L
        have LN : Hid ((N k).length ≤ 1048576) := HL.out k
        clear ar ho
        rcases ki with ki | ki | ki | ki | ki
        · have EE : insOf (E k) = fun j => if j = 0 then 1 else if j = 1 then 0 else 0 := by funext j; simp [insOf, ki]
          have NN : insN E N k = N k := by simp [insN, numsOf, ki]
          rw [ki] at p0
          have GROW : Hid (∀ (W : World) (ya : Option Addr) (yc : Nat), Below wr.heap.size wr W → Piece wr.heap.size W.heap.size W (.slice ya (N k : List Int).length yc) (N k) → ∃ a' c' w3, (Builtin.append_ #[26, 26] 26 #[.slice a1 k c1, .slice (some ⟨W.heap.size, 0, none⟩) 1 1]).run Try.prog (W.alloc (.cells #[.int .i64 1, .int .i64 0, .int .i64 0, .int .i64 0, .int .i64 0, .slice ya (N k : List Int).length yc] 46)) = .ok (.slice a' (k + 1) c') w3 ∧ GIns (w.heap.size + 1) W0 w3 (.slice a' (k + 1) c') (k + 1) (insE E) (insN E N)) := by
            intro W ya yc hW hp
            rw [← NN] at hp
            obtain ⟨a', c', w3, hr, hg, _⟩ := GK.out.grow hW (e := insOf (E k)) rfl hp (by omega)
            refine ⟨a', c', w3, ?_, hg⟩
            rw [← NN]
            rw [EE] at hr
            simpa using hr
          clear EE NN ki
          generalize E k 0 = g0 at *
          generalize E k 1 = g1 at *
          generalize E k 2 = g2 at *
          generalize E k 3 = g3 at *
          generalize E k 4 = g4 at *
          generalize E k 5 = g5 at *
          obtain ⟨Wb, hWb⟩ : ∃ Wb, Wb = wr.alloc (.cells #[.int .i64 1, .int .i64 g1, .int .i64 g2, .int .i64 g3, .int .i64 g4, .int .i64 g5, .slice xa (N k).length xc] 44) := ⟨_, rfl⟩
          have BWb : Below wr.heap.size wr Wb := by rw [hWb]; exact bAlloc (Below.refl _ _) _
          have SZb : Wb.heap.size = wr.heap.size + 1 := by rw [hWb]; simp
          obtain ⟨Wc, hWc⟩ : ∃ Wc, Wc = Wb.alloc (.cells #[] 3) := ⟨_, rfl⟩
          have NE : NewInts Wb.heap.size Wc (.slice (some ⟨Wb.heap.size, 0, none⟩) 0 0) [] := by rw [hWc]; exact newInts_alloc Wb [] (Nat.le_refl _) (by simp)
          have BWc : Below Wb.heap.size Wb Wc := by rw [hWc]; exact bAlloc (Below.refl _ _) _
          have SZc : Wc.heap.size = Wb.heap.size + 1 := by rw [hWc]; simp
          obtain ⟨_, _, ev, _, hi⟩ := (AR.out.keep BWb).keep BWc
          cases ev
          obtain ⟨av, cv, wv, hrv, hnv, hbv⟩ := growL NE hi (by omega) (by have := LN.out; simp; omega) xc
          rw [List.nil_append] at hrv hnv
          obtain ⟨a', c', w3, hr, hg⟩ := GROW.out wv av cv ((BWb.trans (BWc.mono (by omega))).trans (hbv.mono (by omega))) (hnv.piece.mono (by omega) (Nat.le_refl _))
          have R2 : Hid ((Builtin.append_ #[42, 42] 42 #[.slice (some ⟨wr.heap.size + 1, 0, none⟩) 0 0, .slice xa (N k).length xc]).run Try.prog ((wr.alloc (.cells #[.int .i64 1, .int .i64 g1, .int .i64 g2, .int .i64 g3, .int .i64 g4, .int .i64 g5, .slice xa (N k).length xc] 44)).alloc (.cells #[] 3)) = .ok (.slice av (N k).length cv) wv) := by show _ = _; rw [← hWb, ← hWc, ← SZb]; exact hrv
          have R3 : Hid ((Builtin.append_ #[26, 26] 26 #[.slice a1 k c1, .slice (some ⟨wv.heap.size, 0, none⟩) 1 1]).run Try.prog (wv.alloc (.cells #[.int .i64 1, .int .i64 0, .int .i64 0, .int .i64 0, .int .i64 0, .slice av (N k).length cv] 46)) = .ok (.slice a' (k + 1) c') w3) := hr
          have G3 : Hid (GIns (w.heap.size + 1) W0 w3 (.slice a' (k + 1) c') (k + 1) (insE E) (insN E N)) := hg
          clear hr hg SZb hWb GROW hWc SZc NE BWb BWc hi hrv hnv hbv
          generalize (N k).length = sl at *
          go_wp2_with (first | (at_builtin; refine wpList_append_ty rfl _ _ 42 42 rfl _ _ _ rfl rfl R2.out ?_) | (at_builtin; refine wpList_append_ty rfl _ _ 26 26 rfl _ _ _ rfl rfl R3.out ?_))
          go_roundw
          case rel => exact ⟨k + 1, a', c', by omega, rfl, by go_num, G3.out⟩
          case measure => simp [intOf]; omega
        · have EE : insOf (E k) = fun j => if j = 0 then 2 else if j = 1 then E k 1 else 0 := by funext j; simp [insOf, ki]
          have NN : insN E N k = [] := by simp [insN, numsOf, ki]
          rw [ki] at p0
          have GROW : Hid (∀ (W : World) (ya : Option Addr) (yc : Nat), Below wr.heap.size wr W → Piece wr.heap.size W.heap.size W (.slice ya ([] : List Int).length yc) ([]) → ∃ a' c' w3, (Builtin.append_ #[26, 26] 26 #[.slice a1 k c1, .slice (some ⟨W.heap.size, 0, none⟩) 1 1]).run Try.prog (W.alloc (.cells #[.int .i64 2, .int .i64 (E k 1), .int .i64 0, .int .i64 0, .int .i64 0, .slice ya ([] : List Int).length yc] 46)) = .ok (.slice a' (k + 1) c') w3 ∧ GIns (w.heap.size + 1) W0 w3 (.slice a' (k + 1) c') (k + 1) (insE E) (insN E N)) := by
            intro W ya yc hW hp
            rw [← NN] at hp
            obtain ⟨a', c', w3, hr, hg, _⟩ := GK.out.grow hW (e := insOf (E k)) rfl hp (by omega)
            refine ⟨a', c', w3, ?_, hg⟩
            rw [← NN]
            rw [EE] at hr
            simpa using hr
          clear EE NN ki
          generalize E k 0 = g0 at *
          generalize E k 1 = g1 at *
          generalize E k 2 = g2 at *
          generalize E k 3 = g3 at *
          generalize E k 4 = g4 at *
          generalize E k 5 = g5 at *
          obtain ⟨Wb, hWb⟩ : ∃ Wb, Wb = wr.alloc (.cells #[.int .i64 2, .int .i64 g1, .int .i64 g2, .int .i64 g3, .int .i64 g4, .int .i64 g5, .slice xa (N k).length xc] 44) := ⟨_, rfl⟩
          have SZb : Wb.heap.size = wr.heap.size + 1 := by rw [hWb]; simp
          obtain ⟨a', c', w3, hr, hg⟩ := GROW.out Wb none 0 (by rw [hWb]; exact bAlloc (Below.refl _ _) _) (Piece.nil _ _ _)
          rw [SZb, hWb] at hr
          have R3 : Hid ((Builtin.append_ #[26, 26] 26 #[.slice a1 k c1, .slice (some ⟨wr.heap.size + 1, 0, none⟩) 1 1]).run Try.prog ((wr.alloc (.cells #[.int .i64 2, .int .i64 g1, .int .i64 g2, .int .i64 g3, .int .i64 g4, .int .i64 g5, .slice xa (N k).length xc] 44)).alloc (.cells #[.int .i64 2, .int .i64 g1, .int .i64 0, .int .i64 0, .int .i64 0, .slice none 0 0] 46)) = .ok (.slice a' (k + 1) c') w3) := hr
          have G3 : Hid (GIns (w.heap.size + 1) W0 w3 (.slice a' (k + 1) c') (k + 1) (insE E) (insN E N)) := hg
          clear hr hg SZb hWb GROW
          generalize (N k).length = sl at *
          go_wp2_with (at_builtin; refine wpList_append_ty rfl _ _ 26 26 rfl _ _ _ rfl rfl R3.out ?_)
          go_roundw
          case rel => exact ⟨k + 1, a', c', by omega, rfl, by go_num, G3.out⟩
          case measure => simp [intOf]; omega
        · have EE : insOf (E k) = fun j => if j = 0 then 3 else if j = 1 then E k 1 else 0 := by funext j; simp [insOf, ki]
          have NN : insN E N k = [] := by simp [insN, numsOf, ki]
          rw [ki] at p0
          have GROW : Hid (∀ (W : World) (ya : Option Addr) (yc : Nat), Below wr.heap.size wr W → Piece wr.heap.size W.heap.size W (.slice ya ([] : List Int).length yc) ([]) → ∃ a' c' w3, (Builtin.append_ #[26, 26] 26 #[.slice a1 k c1, .slice (some ⟨W.heap.size, 0, none⟩) 1 1]).run Try.prog (W.alloc (.cells #[.int .i64 3, .int .i64 (E k 1), .int .i64 0, .int .i64 0, .int .i64 0, .slice ya ([] : List Int).length yc] 46)) = .ok (.slice a' (k + 1) c') w3 ∧ GIns (w.heap.size + 1) W0 w3 (.slice a' (k + 1) c') (k + 1) (insE E) (insN E N)) := by
            intro W ya yc hW hp
            rw [← NN] at hp
            obtain ⟨a', c', w3, hr, hg, _⟩ := GK.out.grow hW (e := insOf (E k)) rfl hp (by omega)
            refine ⟨a', c', w3, ?_, hg⟩
            rw [← NN]
            rw [EE] at hr
            simpa using hr
          clear EE NN ki
          generalize E k 0 = g0 at *
          generalize E k 1 = g1 at *
          generalize E k 2 = g2 at *
          generalize E k 3 = g3 at *
          generalize E k 4 = g4 at *
          generalize E k 5 = g5 at *
          obtain ⟨Wb, hWb⟩ : ∃ Wb, Wb = wr.alloc (.cells #[.int .i64 3, .int .i64 g1, .int .i64 g2, .int .i64 g3, .int .i64 g4, .int .i64 g5, .slice xa (N k).length xc] 44) := ⟨_, rfl⟩
          have SZb : Wb.heap.size = wr.heap.size + 1 := by rw [hWb]; simp
          obtain ⟨a', c', w3, hr, hg⟩ := GROW.out Wb none 0 (by rw [hWb]; exact bAlloc (Below.refl _ _) _) (Piece.nil _ _ _)
          rw [SZb, hWb] at hr
          have R3 : Hid ((Builtin.append_ #[26, 26] 26 #[.slice a1 k c1, .slice (some ⟨wr.heap.size + 1, 0, none⟩) 1 1]).run Try.prog ((wr.alloc (.cells #[.int .i64 3, .int .i64 g1, .int .i64 g2, .int .i64 g3, .int .i64 g4, .int .i64 g5, .slice xa (N k).length xc] 44)).alloc (.cells #[.int .i64 3, .int .i64 g1, .int .i64 0, .int .i64 0, .int .i64 0, .slice none 0 0] 46)) = .ok (.slice a' (k + 1) c') w3) := hr
          have G3 : Hid (GIns (w.heap.size + 1) W0 w3 (.slice a' (k + 1) c') (k + 1) (insE E) (insN E N)) := hg
          clear hr hg SZb hWb GROW
          generalize (N k).length = sl at *
          go_wp2_with (at_builtin; refine wpList_append_ty rfl _ _ 26 26 rfl _ _ _ rfl rfl R3.out ?_)
          go_roundw
          case rel => exact ⟨k + 1, a', c', by omega, rfl, by go_num, G3.out⟩
          case measure => simp [intOf]; omega
        · have EE : insOf (E k) = fun j => if j = 0 then 4 else if j = 1 then 0 else E k (j + 1) := by funext j; simp [insOf, ki]
          have NN : insN E N k = [] := by simp [insN, numsOf, ki]
          rw [ki] at p0
          have GROW : Hid (∀ (W : World) (ya : Option Addr) (yc : Nat), Below wr.heap.size wr W → Piece wr.heap.size W.heap.size W (.slice ya ([] : List Int).length yc) ([]) → ∃ a' c' w3, (Builtin.append_ #[26, 26] 26 #[.slice a1 k c1, .slice (some ⟨W.heap.size, 0, none⟩) 1 1]).run Try.prog (W.alloc (.cells #[.int .i64 4, .int .i64 0, .int .i64 (E k 3), .int .i64 (E k 4), .int .i64 (E k 5), .slice ya ([] : List Int).length yc] 46)) = .ok (.slice a' (k + 1) c') w3 ∧ GIns (w.heap.size + 1) W0 w3 (.slice a' (k + 1) c') (k + 1) (insE E) (insN E N)) := by
            intro W ya yc hW hp
            rw [← NN] at hp
            obtain ⟨a', c', w3, hr, hg, _⟩ := GK.out.grow hW (e := insOf (E k)) rfl hp (by omega)
            refine ⟨a', c', w3, ?_, hg⟩
            rw [← NN]
            rw [EE] at hr
            simpa using hr
          clear EE NN ki
          generalize E k 0 = g0 at *
          generalize E k 1 = g1 at *
          generalize E k 2 = g2 at *
          generalize E k 3 = g3 at *
          generalize E k 4 = g4 at *
          generalize E k 5 = g5 at *
          obtain ⟨Wb, hWb⟩ : ∃ Wb, Wb = wr.alloc (.cells #[.int .i64 4, .int .i64 g1, .int .i64 g2, .int .i64 g3, .int .i64 g4, .int .i64 g5, .slice xa (N k).length xc] 44) := ⟨_, rfl⟩
          have SZb : Wb.heap.size = wr.heap.size + 1 := by rw [hWb]; simp
          obtain ⟨a', c', w3, hr, hg⟩ := GROW.out Wb none 0 (by rw [hWb]; exact bAlloc (Below.refl _ _) _) (Piece.nil _ _ _)
          rw [SZb, hWb] at hr
          have R3 : Hid ((Builtin.append_ #[26, 26] 26 #[.slice a1 k c1, .slice (some ⟨wr.heap.size + 1, 0, none⟩) 1 1]).run Try.prog ((wr.alloc (.cells #[.int .i64 4, .int .i64 g1, .int .i64 g2, .int .i64 g3, .int .i64 g4, .int .i64 g5, .slice xa (N k).length xc] 44)).alloc (.cells #[.int .i64 4, .int .i64 0, .int .i64 g3, .int .i64 g4, .int .i64 g5, .slice none 0 0] 46)) = .ok (.slice a' (k + 1) c') w3) := hr
          have G3 : Hid (GIns (w.heap.size + 1) W0 w3 (.slice a' (k + 1) c') (k + 1) (insE E) (insN E N)) := hg
          clear hr hg SZb hWb GROW
          generalize (N k).length = sl at *
          go_wp2_with (at_builtin; refine wpList_append_ty rfl _ _ 26 26 rfl _ _ _ rfl rfl R3.out ?_)
          go_roundw
          case rel => exact ⟨k + 1, a', c', by omega, rfl, by go_num, G3.out⟩
          case measure => simp [intOf]; omega
        · have EE : insOf (E k) = fun j => if j = 0 then 5 else if j = 1 then 0 else E k (j + 1) := by funext j; simp [insOf, ki]
          have NN : insN E N k = [] := by simp [insN, numsOf, ki]
          rw [ki] at p0
          have GROW : Hid (∀ (W : World) (ya : Option Addr) (yc : Nat), Below wr.heap.size wr W → Piece wr.heap.size W.heap.size W (.slice ya ([] : List Int).length yc) ([]) → ∃ a' c' w3, (Builtin.append_ #[26, 26] 26 #[.slice a1 k c1, .slice (some ⟨W.heap.size, 0, none⟩) 1 1]).run Try.prog (W.alloc (.cells #[.int .i64 5, .int .i64 0, .int .i64 (E k 3), .int .i64 (E k 4), .int .i64 (E k 5), .slice ya ([] : List Int).length yc] 46)) = .ok (.slice a' (k + 1) c') w3 ∧ GIns (w.heap.size + 1) W0 w3 (.slice a' (k + 1) c') (k + 1) (insE E) (insN E N)) := by
            intro W ya yc hW hp
            rw [← NN] at hp
            obtain ⟨a', c', w3, hr, hg, _⟩ := GK.out.grow hW (e := insOf (E k)) rfl hp (by omega)
            refine ⟨a', c', w3, ?_, hg⟩
            rw [← NN]
            rw [EE] at hr
            simpa using hr
          clear EE NN ki
          generalize E k 0 = g0 at *
          generalize E k 1 = g1 at *
          generalize E k 2 = g2 at *
          generalize E k 3 = g3 at *
          generalize E k 4 = g4 at *
          generalize E k 5 = g5 at *
          obtain ⟨Wb, hWb⟩ : ∃ Wb, Wb = wr.alloc (.cells #[.int .i64 5, .int .i64 g1, .int .i64 g2, .int .i64 g3, .int .i64 g4, .int .i64 g5, .slice xa (N k).length xc] 44) := ⟨_, rfl⟩
          have SZb : Wb.heap.size = wr.heap.size + 1 := by rw [hWb]; simp
          obtain ⟨a', c', w3, hr, hg⟩ := GROW.out Wb none 0 (by rw [hWb]; exact bAlloc (Below.refl _ _) _) (Piece.nil _ _ _)
          rw [SZb, hWb] at hr
          have R3 : Hid ((Builtin.append_ #[26, 26] 26 #[.slice a1 k c1, .slice (some ⟨wr.heap.size + 1, 0, none⟩) 1 1]).run Try.prog ((wr.alloc (.cells #[.int .i64 5, .int .i64 g1, .int .i64 g2, .int .i64 g3, .int .i64 g4, .int .i64 g5, .slice xa (N k).length xc] 44)).alloc (.cells #[.int .i64 5, .int .i64 0, .int .i64 g3, .int .i64 g4, .int .i64 g5, .slice none 0 0] 46)) = .ok (.slice a' (k + 1) c') w3) := hr
          have G3 : Hid (GIns (w.heap.size + 1) W0 w3 (.slice a' (k + 1) c') (k + 1) (insE E) (insN E N)) := hg
          clear hr hg SZb hWb GROW
          generalize (N k).length = sl at *
          go_wp2_with (at_builtin; refine wpList_append_ty rfl _ _ 26 26 rfl _ _ _ rfl rfl R3.out ?_)
          go_roundw
          case rel => exact ⟨k + 1, a', c', by omega, rfl, by go_num, G3.out⟩
          case measure => simp [intOf]; omega
      · obtain rfl : k = n := by omega
        have IW := GK.out.insW
        have BB := BW.out wr GK.out.below
        go_wp2
        go_ret2
        exact ⟨_, rfl, IW.mono (by omega), BB⟩
end Go.Proofs.Ytpmcipnookjmgaa
namespace Go.Proofs.Ytpmcipnookjmgaa
open Go.RowKit
set_option linter.unusedVariables false
set_option linter.unusedSimpArgs false
set_option maxRecDepth 20000 in
/-- Out of a list into a new one of its length. -/
theorem copy_all {w : World} {a : Option Addr} {l : List Int} (h1 : Ints w a l) (ty : TypeId) (d : Nat) (Z : Array Value) (hZ : Z.size = l.length) :
    (Builtin.copy_ #[42, 42] ty #[.slice (some ⟨w.heap.size, 0, none⟩) l.length l.length, .slice a l.length d]).run Try.prog (w.alloc (.cells Z 3)) =
      .ok (.int .i64 l.length) (w.alloc (.cells (vals l) 3)) := by
  by_cases h0 : l.length = 0
  · obtain rfl : l = [] := List.eq_nil_of_length_eq_zero h0
    have e : Z = vals [] := by simp at hZ; simp [vals, hZ]
    rw [e]
    exact run_copy_none (P := Try.prog) _ 42 42 ty 3 _ _ _ _ _ _ Try.underlying42 int_size rfl
  · rcases h1 with rfl | ⟨b, off, rfl, hb, hc⟩
    · exact absurd rfl h0
    · have hg : (w.alloc (.cells Z 3)).heap[w.heap.size]? = some (.cells Z 3 (0, 0)) := heap_alloc_new _ _
      have hc' : ∀ k, k < l.length → (w.alloc (.cells Z 3)).cell? ⟨b, off + k, none⟩ = some (.int .i64 (l.getD k 0)) := by
        intro k hk
        rw [(bAlloc (Below.refl w.heap.size w) _).cell (p := ⟨b, off + k, none⟩) hb]
        exact hc k hk
      have q := run_copy_row Try.prog (w.alloc (.cells Z 3)) 42 42 ty 3 w.heap.size 0 l.length l.length ⟨b, off, none⟩ l.length d Z 3 (l.map (Value.int .i64)) Try.underlying42 int_size hg (by rw [List.length_map]; simp) (ints_src hc') (by simp; omega) (by intro v hv; obtain ⟨x, _, rfl⟩ := List.mem_map.1 hv; rfl)
      rw [q, setRow_last, List.length_map]
      congr 3
      simp [vals, hZ]
set_option maxHeartbeats 1000000 in
/-- copiedList: a copy in new memory. -/
theorem copied_impl {l : List Int} {a : Option Addr} {w : World} (c : Nat) (h1 : Ints w a l) (hl : l.length ≤ 1048576) :
    Calls Try.prog 30 #[.slice a l.length c] w fun e w' => e = .returned (.slice (some ⟨w.heap.size, 0, none⟩) l.length l.length) ∧ w' = w.alloc (.cells (vals l) 3) := by
  have hmk : ∀ w, (Instr.makeSlice 42 (.int .i64 (l.length : Int)) (.int .i64 (l.length : Int))).run Try.prog w = .ok (.slice (some ⟨w.heap.size, 0, none⟩) l.length l.length) (w.alloc (.cells (vals (List.replicate l.length 0)) 3)) := fun w => make_ints l.length (by omega) w
  have hcp : (Builtin.copy_ #[42, 42] 3 #[.slice (some ⟨w.heap.size, 0, none⟩) l.length l.length, .slice a l.length c]).run Try.prog (w.alloc (.cells (vals (List.replicate l.length 0)) 3)) = .ok (.int .i64 l.length) (w.alloc (.cells (vals l) 3)) := copy_all h1 _ c _ (by simp [vals])
  clear h1
  go_enter Try.func30, Try.ntmps30
  go_wp2
  go_ret
  exact ⟨rfl, rfl⟩
/-- copiedList, as a contract on values. -/
theorem copied_new {l : List Int} {w : World} {v : Value} (h : IntsI w v l) (hl : l.length ≤ 1048576) :
    Calls Try.prog 30 #[v] w fun e w' => ∃ a' c', e = .returned (.slice a' l.length c') ∧ Piece w.heap.size w'.heap.size w' (.slice a' l.length c') l ∧ Below w.heap.size w w' := by
  obtain ⟨a, c, rfl, _, i⟩ := h
  refine (copied_impl c i hl).mono ?_
  rintro e w' ⟨rfl, rfl⟩
  exact ⟨_, _, rfl, OwnInts.piece (ownInts_new w l) (Nat.le_refl _) (by simp) _, bAlloc (Below.refl _ _) _⟩
end Go.Proofs.Ytpmcipnookjmgaa
namespace Go.Proofs.Ytpmcipnookjmgaa
open Go.RowKit
set_option linter.unusedVariables false
set_option linter.unusedSimpArgs false
/-- What instrOf answers. -/
def InsPost (w : World) (e : Nat → Int) (l : List Int) (r : Ending) (w' : World) : Prop :=
  ∃ xa' xc', r = .returned (.agg #[.int .i64 (insOf e 0), .int .i64 (insOf e 1), .int .i64 (insOf e 2), .int .i64 (insOf e 3), .int .i64 (insOf e 4), .slice xa' (numsOf e l).length xc']) ∧ Piece w.heap.size w'.heap.size w' (.slice xa' (numsOf e l).length xc') (numsOf e l) ∧ Below w.heap.size w w'
theorem two_allocs (w : World) (A B : Obj) : ((w.alloc A).alloc B).heap[w.heap.size]? = some A ∧ ((w.alloc A).alloc B).heap[w.heap.size + 1]? = some B := by
  have e1 := heap_alloc_new w A
  have e2 := heap_alloc_new (w.alloc A) B
  simp only [World.size_alloc] at e2
  refine ⟨?_, e2⟩
  rw [heap_alloc_old _ _ (by simp only [World.size_alloc]; omega)]; exact e1
set_option maxRecDepth 20000 in
set_option maxHeartbeats 8000000 in
/-- instrOf. -/
theorem instrOf_impl {e : Nat → Int} {l : List Int} {w : World} {xa : Option Addr} {xc : Nat} (h : IntsI w (.slice xa l.length xc) l) (hl : l.length ≤ 1048576) (hk : e 0 = 1 ∨ e 0 = 2 ∨ e 0 = 3 ∨ e 0 = 4 ∨ e 0 = 5) :
    Calls Try.prog 17 #[.agg #[.int .i64 (e 0), .int .i64 (e 1), .int .i64 (e 2), .int .i64 (e 3), .int .i64 (e 4), .int .i64 (e 5), .slice xa l.length xc]] w fun r w' => InsPost w e l r w' := by
  have H : Hid (IntsI w (.slice xa l.length xc) l) := h
  have HL : Hid (l.length ≤ 1048576) := hl
  unfold InsPost
  clear h hl
  rcases hk with hk | hk | hk | hk | hk
  · have i0 : insOf e 0 = 1 := by simp [insOf, hk]
    have i1 : insOf e 1 = 0 := by simp [insOf, hk]
    have i2 : insOf e 2 = 0 := by simp [insOf, hk]
    have i3 : insOf e 3 = 0 := by simp [insOf, hk]
    have i4 : insOf e 4 = 0 := by simp [insOf, hk]
    have nn : numsOf e l = l := by simp [numsOf, hk]
    rw [i0, i1, i2, i3, i4, nn, hk]
    clear i0 i1 i2 i3 i4 nn hk
    generalize e 1 = e1
    generalize e 2 = e2
    generalize e 3 = e3
    generalize e 4 = e4
    generalize e 5 = e5
    go_enter Try.func17, Try.ntmps17
    go_wp2_with fail
    refine (copied_new (H.out.keep (bAlloc (bAlloc (Below.refl _ _) _) _)) HL.out).mono ?_
    rintro r w2 ⟨a2, c2, rfl, hp, hb⟩
    have q := two_allocs w (.cells #[.int .i64 1, .int .i64 e1, .int .i64 e2, .int .i64 e3, .int .i64 e4, .int .i64 e5, .slice xa l.length xc] 44) (.cells #[.int .i64 0, .int .i64 0, .int .i64 0, .int .i64 0, .int .i64 0, .slice none 0 0] 46)
    have R2 : Hid (w2.heap[w.heap.size + 1]? = some (.cells #[.int .i64 0, .int .i64 0, .int .i64 0, .int .i64 0, .int .i64 0, .slice none 0 0] 46 (0, 0))) := by show _ = _; rw [hb.block _ (by simp)]; exact q.2
    have B2 : Hid (Below w.heap.size w w2) := bTrans (bAlloc (bAlloc (Below.refl _ _) _) _) hb
    have PP : Hid (Piece (w.heap.size + 1 + 1) w2.heap.size w2 (.slice a2 l.length c2) l) := hp.mono (by simp) (Nat.le_refl _)
    have LT : Hid (w.heap.size + 1 < w2.heap.size) := lt_of_heapA R2.out
    clear hp hb q
    have r0 : w2.cell? ⟨w.heap.size + 1, 0, none⟩ = some (.int .i64 0) := cell_at R2.out rfl
    have f0 : w2.frozen? ⟨w.heap.size + 1, 0, none⟩ = false := free_at R2.out 0
    have r1 : w2.cell? ⟨w.heap.size + 1, 1, none⟩ = some (.int .i64 0) := cell_at R2.out rfl
    have f1 : w2.frozen? ⟨w.heap.size + 1, 1, none⟩ = false := free_at R2.out 1
    have r2 : w2.cell? ⟨w.heap.size + 1, 2, none⟩ = some (.int .i64 0) := cell_at R2.out rfl
    have f2 : w2.frozen? ⟨w.heap.size + 1, 2, none⟩ = false := free_at R2.out 2
    have r3 : w2.cell? ⟨w.heap.size + 1, 3, none⟩ = some (.int .i64 0) := cell_at R2.out rfl
    have f3 : w2.frozen? ⟨w.heap.size + 1, 3, none⟩ = false := free_at R2.out 3
    have r4 : w2.cell? ⟨w.heap.size + 1, 4, none⟩ = some (.int .i64 0) := cell_at R2.out rfl
    have f4 : w2.frozen? ⟨w.heap.size + 1, 4, none⟩ = false := free_at R2.out 4
    have r5 : w2.cell? ⟨w.heap.size + 1, 5, none⟩ = some (.slice none 0 0) := cell_at R2.out rfl
    have f5 : w2.frozen? ⟨w.heap.size + 1, 5, none⟩ = false := free_at R2.out 5
    go_wp2
    have HR := instr_stored (y0 := .int .i64 1) (y1 := .int .i64 0) (y2 := .int .i64 0) (y3 := .int .i64 0) (y4 := .int .i64 0) (y5 := .slice a2 l.length c2) R2.out
    refine bodyPost_ret (results_instr Try.results17 _ _ (w.heap.size + 1) _ _ _ _ _ _ rfl HR) rfl ?_
    have L9 := LT.out
    have WW : Win w.heap.size (w.heap.size + 1 + 1) w2 ((((((w2.setCell ⟨w.heap.size + 1, 0, none⟩ (.int .i64 1)).setCell ⟨w.heap.size + 1, 1, none⟩ (.int .i64 0)).setCell ⟨w.heap.size + 1, 2, none⟩ (.int .i64 0)).setCell ⟨w.heap.size + 1, 3, none⟩ (.int .i64 0)).setCell ⟨w.heap.size + 1, 4, none⟩ (.int .i64 0)).setCell ⟨w.heap.size + 1, 5, none⟩ (.slice a2 l.length c2)) := ((((((Win.refl _ _ _).setCell (by omega) (by omega) _ _).setCell (by omega) (by omega) _ _).setCell (by omega) (by omega) _ _).setCell (by omega) (by omega) _ _).setCell (by omega) (by omega) _ _).setCell (by omega) (by omega) _ _
    exact ⟨_, _, rfl, (PP.out.win WW (.inr (Nat.le_refl _))).mono (by omega) (by simp only [size_setCell]; omega), B2.out.trans (WW.below (Nat.le_refl _) B2.out.size)⟩
  · have i0 : insOf e 0 = 2 := by simp [insOf, hk]
    have i1 : insOf e 1 = e 1 := by simp [insOf, hk]
    have i2 : insOf e 2 = 0 := by simp [insOf, hk]
    have i3 : insOf e 3 = 0 := by simp [insOf, hk]
    have i4 : insOf e 4 = 0 := by simp [insOf, hk]
    have nn : numsOf e l = [] := by simp [numsOf, hk]
    rw [i0, i1, i2, i3, i4, nn, hk]
    clear i0 i1 i2 i3 i4 nn hk
    generalize e 1 = e1
    generalize e 2 = e2
    generalize e 3 = e3
    generalize e 4 = e4
    generalize e 5 = e5
    go_enter Try.func17, Try.ntmps17
    go_wp2
    exact bodyPost_ret (v := .agg #[.int .i64 2, .int .i64 e1, .int .i64 0, .int .i64 0, .int .i64 0, .slice none 0 0]) (by simp [results, Try.results17, go_sem]) rfl ⟨none, 0, rfl, Piece.nil _ _ _, bAlloc (bAlloc (Below.refl _ _) _) _⟩
  · have i0 : insOf e 0 = 3 := by simp [insOf, hk]
    have i1 : insOf e 1 = e 1 := by simp [insOf, hk]
    have i2 : insOf e 2 = 0 := by simp [insOf, hk]
    have i3 : insOf e 3 = 0 := by simp [insOf, hk]
    have i4 : insOf e 4 = 0 := by simp [insOf, hk]
    have nn : numsOf e l = [] := by simp [numsOf, hk]
    rw [i0, i1, i2, i3, i4, nn, hk]
    clear i0 i1 i2 i3 i4 nn hk
    generalize e 1 = e1
    generalize e 2 = e2
    generalize e 3 = e3
    generalize e 4 = e4
    generalize e 5 = e5
    go_enter Try.func17, Try.ntmps17
    go_wp2
    exact bodyPost_ret (v := .agg #[.int .i64 3, .int .i64 e1, .int .i64 0, .int .i64 0, .int .i64 0, .slice none 0 0]) (by simp [results, Try.results17, go_sem]) rfl ⟨none, 0, rfl, Piece.nil _ _ _, bAlloc (bAlloc (Below.refl _ _) _) _⟩
  · have i0 : insOf e 0 = 4 := by simp [insOf, hk]
    have i1 : insOf e 1 = 0 := by simp [insOf, hk]
    have i2 : insOf e 2 = e 3 := by simp [insOf, hk]
    have i3 : insOf e 3 = e 4 := by simp [insOf, hk]
    have i4 : insOf e 4 = e 5 := by simp [insOf, hk]
    have nn : numsOf e l = [] := by simp [numsOf, hk]
    rw [i0, i1, i2, i3, i4, nn, hk]
    clear i0 i1 i2 i3 i4 nn hk
    generalize e 1 = e1
    generalize e 2 = e2
    generalize e 3 = e3
    generalize e 4 = e4
    generalize e 5 = e5
    go_enter Try.func17, Try.ntmps17
    go_wp2
    exact bodyPost_ret (v := .agg #[.int .i64 4, .int .i64 0, .int .i64 e3, .int .i64 e4, .int .i64 e5, .slice none 0 0]) (by simp [results, Try.results17, go_sem]) rfl ⟨none, 0, rfl, Piece.nil _ _ _, bAlloc (bAlloc (Below.refl _ _) _) _⟩
  · have i0 : insOf e 0 = 5 := by simp [insOf, hk]
    have i1 : insOf e 1 = 0 := by simp [insOf, hk]
    have i2 : insOf e 2 = e 3 := by simp [insOf, hk]
    have i3 : insOf e 3 = e 4 := by simp [insOf, hk]
    have i4 : insOf e 4 = e 5 := by simp [insOf, hk]
    have nn : numsOf e l = [] := by simp [numsOf, hk]
    rw [i0, i1, i2, i3, i4, nn, hk]
    clear i0 i1 i2 i3 i4 nn hk
    generalize e 1 = e1
    generalize e 2 = e2
    generalize e 3 = e3
    generalize e 4 = e4
    generalize e 5 = e5
    go_enter Try.func17, Try.ntmps17
    go_wp2
    exact bodyPost_ret (v := .agg #[.int .i64 5, .int .i64 0, .int .i64 e3, .int .i64 e4, .int .i64 e5, .slice none 0 0]) (by simp [results, Try.results17, go_sem]) rfl ⟨none, 0, rfl, Piece.nil _ _ _, bAlloc (bAlloc (Below.refl _ _) _) _⟩
set_option maxRecDepth 20000 in
set_option maxHeartbeats 8000000 in
/-- The program's Compile. -/
theorem compile_impl {w : World} {v : Value} {n : Nat} {E : Nat → Nat → Int} {N : Nat → List Int} (h : ExprsI w v n E N) (hl : ∀ i, (N i).length ≤ 1048576) (hn : n ≤ 1048576) :
    Calls Try.prog 7 #[.agg #[v]] w fun r w' => ∃ u, r = .returned (.tuple #[u, .bool (treeB n E N)]) ∧ OwnVInsI w.heap.size w'.heap.size w' u (if treeB n E N = true then n else 0) (insE E) (insN E N) ∧ Below w.heap.size w w' := by
  have H : Hid (ExprsI w v n E N) := h
  have HL : Hid (∀ i, (N i).length ≤ 1048576) := hl
  have CO : Hid (∀ W, Below w.heap.size w W → Calls Try.prog 16 #[.agg #[v]] W fun r w' => r = .returned (.bool (treeB n E N)) ∧ Below W.heap.size W w') := fun W hb => treeOk_impl (h.keep hb) hl hn
  obtain ⟨a, c, rfl, _⟩ := h
  clear hl
  cases hc : treeB n E N
  · rw [hc] at CO
    rw [if_neg (by decide)]
    clear hc
    go_enter Try.func7, Try.ntmps7
    go_wp2_with fail
    refine (CO.out _ (bAlloc (Below.refl _ _) _)).mono ?_
    rintro r w1 ⟨rfl, hb⟩
    have B1 : Hid (Below w.heap.size w w1) := bTrans (bAlloc (Below.refl _ _) _) hb
    clear hb CO
    go_wp2
    go_ret2
    exact ⟨_, rfl, OwnVInsI.nil none 0, B1.out⟩
  · rw [hc] at CO
    rw [if_pos rfl]
    have KI : Hid (∀ i, i < n → (E i 0 = 1 ∨ E i 0 = 2 ∨ E i 0 = 3 ∨ E i 0 = 4 ∨ E i 0 = 5)) := fun i hi => ((treeB_kind hc).2 i hi).1
    have n60 : n ≤ 60 := (treeB_kind hc).1
    clear hc
    go_enter Try.func7, Try.ntmps7
    go_wp2_with fail
    refine (CO.out _ (bAlloc (Below.refl _ _) _)).mono ?_
    rintro r w1 ⟨rfl, hb⟩
    have B1 : Hid (Below w.heap.size w w1) := bTrans (bAlloc (Below.refl _ _) _) hb
    have x1 : w1.cell? ⟨w.heap.size, 0, none⟩ = some (.slice a n c) := (hb.cell (p := ⟨w.heap.size, 0, none⟩) (by simp)).trans (cell_at (heap_alloc_new w (.cells #[.slice a n c] 31)) rfl)
    have Z1 : Hid (w.heap.size < w1.heap.size) := by have := hb.size; simp at this; show _ < _; omega
    clear hb CO
    obtain ⟨w2, r1, t1⟩ := make_instrN n (by omega) w1 (insE E) (insN E N)
    have T1 : Hid (OwnInsI w1.heap.size w2.heap.size n 0 w2 (insE E) (insN E N) ∧ Below w1.heap.size w1 w2) := by
      obtain ⟨A, x, h1, h2, _, h4⟩ := t1
      have := lt_of_heapA h1
      exact ⟨⟨A, x, fun _ => w1.heap.size + 1, h1, h2, rfl, fun i hi => absurd hi (by omega), this, Nat.le_refl _, fun i hi => absurd hi (by omega)⟩, h4⟩
    have x2 : w2.cell? ⟨w.heap.size, 0, none⟩ = some (.slice a n c) := (T1.out.2.cell (p := ⟨w.heap.size, 0, none⟩) Z1.out).trans x1
    clear t1
    go_wp2
    clear r1 x1 x2
    go_loopw [17] (fun i w' => ∃ k : Nat, k ≤ n ∧ i = .int .i64 (k : Int) ∧ OwnInsI w1.heap.size w'.heap.size n k w' (insE E) (insN E N) ∧ Below w1.heap.size w1 w') (fun i _ => n - (intOf i).toNat)
    case atStart => exact ⟨0, by omega, rfl, T1.out⟩
    case round =>
      obtain ⟨k, hk, rfl, hT, hB⟩ := hrel
      have TK : Hid (OwnInsI w1.heap.size wr.heap.size n k wr (insE E) (insN E N)) := hT
      have BK : Hid (Below w1.heap.size w1 wr) := hB
      clear hT T1 hB
      by_cases hlt : (k : Int) < (n : Int)
      · have L : k < n := by omega
        obtain ⟨o, off, xa, xc, rfl, ho, ⟨p0, p1, p2, p3, p4, p5, p6⟩, ar⟩ := (H.out.keep (bTrans B1.out BK.out)).at L
        have CT : Hid (∀ W, Below wr.heap.size wr W → Calls Try.prog 17 #[.agg #[.int .i64 (E k 0), .int .i64 (E k 1), .int .i64 (E k 2), .int .i64 (E k 3), .int .i64 (E k 4), .int .i64 (E k 5), .slice xa (N k).length xc]] W fun r w' => ∃ xa' xc', r = .returned (.agg #[.int .i64 (insOf (E k) 0), .int .i64 (insOf (E k) 1), .int .i64 (insOf (E k) 2), .int .i64 (insOf (E k) 3), .int .i64 (insOf (E k) 4), .slice xa' (insN E N k).length xc']) ∧ Piece W.heap.size w'.heap.size w' (.slice xa' (insN E N k).length xc') (insN E N k) ∧ Below W.heap.size W w') := fun W hb => instrOf_impl (e := E k) (ar.keep hb) (HL.out k) (KI.out k L)
        have PUT : Hid (∀ (W : World) (x' : Value), Below wr.heap.size wr W → Piece wr.heap.size W.heap.size W x' (insN E N k) → OwnInsI w1.heap.size W.heap.size n (k + 1) ((((((W.setCell ⟨w1.heap.size, k * 6, none⟩ (.int .i64 (insOf (E k) 0))).setCell ⟨w1.heap.size, k * 6 + 1, none⟩ (.int .i64 (insOf (E k) 1))).setCell ⟨w1.heap.size, k * 6 + 2, none⟩ (.int .i64 (insOf (E k) 2))).setCell ⟨w1.heap.size, k * 6 + 3, none⟩ (.int .i64 (insOf (E k) 3))).setCell ⟨w1.heap.size, k * 6 + 4, none⟩ (.int .i64 (insOf (E k) 4))).setCell ⟨w1.heap.size, k * 6 + 5, none⟩ x') (insE E) (insN E N)) := fun W x' hb hA => TK.out.put hb L (e := insOf (E k)) rfl hA
        clear ar ho
        generalize (N k).length = sl at *
        generalize insOf (E k) 0 = q0 at *
        generalize insOf (E k) 1 = q1 at *
        generalize insOf (E k) 2 = q2 at *
        generalize insOf (E k) 3 = q3 at *
        generalize insOf (E k) 4 = q4 at *
        generalize E k 0 = g0 at *
        generalize E k 1 = g1 at *
        generalize E k 2 = g2 at *
        generalize E k 3 = g3 at *
        generalize E k 4 = g4 at *
        generalize E k 5 = g5 at *
        go_wp2_with fail
        refine (CT.out _ (bAlloc (Below.refl _ _) _)).mono ?_
        rintro r w3 ⟨xa2, xc2, rfl, hA, hb⟩
        have HB3 : Below wr.heap.size wr w3 := bTrans (bAlloc (Below.refl _ _) _) hb
        have T3 : Hid (OwnInsI w1.heap.size w3.heap.size n (k + 1) ((((((w3.setCell ⟨w1.heap.size, k * 6, none⟩ (.int .i64 q0)).setCell ⟨w1.heap.size, k * 6 + 1, none⟩ (.int .i64 q1)).setCell ⟨w1.heap.size, k * 6 + 2, none⟩ (.int .i64 q2)).setCell ⟨w1.heap.size, k * 6 + 3, none⟩ (.int .i64 q3)).setCell ⟨w1.heap.size, k * 6 + 4, none⟩ (.int .i64 q4)).setCell ⟨w1.heap.size, k * 6 + 5, none⟩ (.slice xa2 (insN E N k).length xc2)) (insE E) (insN E N)) := PUT.out _ _ HB3 (hA.mono (by simp) (Nat.le_refl _))
        have B3 : Hid (Below w1.heap.size w1 ((((((w3.setCell ⟨w1.heap.size, k * 6, none⟩ (.int .i64 q0)).setCell ⟨w1.heap.size, k * 6 + 1, none⟩ (.int .i64 q1)).setCell ⟨w1.heap.size, k * 6 + 2, none⟩ (.int .i64 q2)).setCell ⟨w1.heap.size, k * 6 + 3, none⟩ (.int .i64 q3)).setCell ⟨w1.heap.size, k * 6 + 4, none⟩ (.int .i64 q4)).setCell ⟨w1.heap.size, k * 6 + 5, none⟩ (.slice xa2 (insN E N k).length xc2))) := below_setCell (below_setCell (below_setCell (below_setCell (below_setCell (below_setCell (bTrans BK.out HB3) (Nat.le_refl _) _ _) (Nat.le_refl _) _ _) (Nat.le_refl _) _ _) (Nat.le_refl _) _ _) (Nat.le_refl _) _ _) (Nat.le_refl _) _ _
        obtain ⟨⟨⟨u0, c0⟩, ⟨u1, c1⟩, ⟨u2, c2⟩, ⟨u3, c3⟩, ⟨u4, c4⟩, ⟨u5, c5⟩⟩, f0, f1, f2, f3, f4, f5⟩ := (TK.out.keep HB3).cells L
        clear hA hb HB3 CT PUT
        generalize (insN E N k).length = ml at *
        go_wp2
        go_roundw
        case rel => exact ⟨k + 1, by omega, by go_num, by simpa only [size_setCell] using T3.out, B3.out⟩
        case measure => simp [intOf]; omega
      · obtain rfl : k = n := by omega
        go_wp2
        go_ret2
        exact ⟨_, rfl, .inr ⟨_, rfl, B1.out.size, TK.out⟩, bTrans B1.out BK.out⟩
end Go.Proofs.Ytpmcipnookjmgaa
