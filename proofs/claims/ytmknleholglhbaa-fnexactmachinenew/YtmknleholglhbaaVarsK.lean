/-
  Walks: lists of letters copied into memory of their own, marked and looked at.
-/
import Derived.Test.YtmknleholglhbaaVarsO
namespace Go.Proofs.Ytmknleholglhbaa
open Go.RowKit
set_option linter.unusedVariables false
set_option linter.unusedSimpArgs false
set_option maxRecDepth 20000 in
set_option maxHeartbeats 4000000 in
/-- A list of letters is copied: the copy is its own. -/
theorem toVarS_own {w : World} {v : Value} {n : Nat} {B : Nat → Bool} {S D : Nat → List Int} (h : VarsI w v n B S D) (hl : ∀ i, (S i).length ≤ 1048576 ∧ (D i).length ≤ 1048576) (hn : n ≤ 1048576) :
    Calls Try.prog 6 #[v] w fun e w' => ∃ o, e = .returned (.slice (some ⟨o, 0, none⟩) n n) ∧ w.heap.size ≤ o ∧ OwnVars o w'.heap.size n n w' B S D ∧ Below w.heap.size w w' := by
  have H : Hid (VarsI w v n B S D) := h
  have HL : Hid (∀ i, (S i).length ≤ 1048576 ∧ (D i).length ≤ 1048576) := hl
  obtain ⟨a, c, rfl, _⟩ := h
  obtain ⟨w1, r1, t1⟩ := make_varsN n hn w B S D
  have T1 : Hid (OwnVars w.heap.size w1.heap.size n 0 w1 B S D ∧ Below w.heap.size w w1) := by
    obtain ⟨A, x, y, h1, h2, _, h4⟩ := t1
    have := lt_of_heapA h1
    exact ⟨⟨A, x, y, fun _ => w.heap.size + 1, h1, h2, rfl, fun i hi => absurd hi (by omega), this, Nat.le_refl _, fun i hi => absurd hi (by omega)⟩, h4⟩
  clear t1 hl
  go_enter Try.func6, Try.ntmps6
  go_wp2
  clear r1
  go_loopw [4] (fun i w' => ∃ k : Nat, k ≤ n ∧ i = .int .i64 (k : Int) ∧ OwnVars w.heap.size w'.heap.size n k w' B S D ∧ Below w.heap.size w w') (fun i _ => n - (intOf i).toNat)
  case atStart => exact ⟨0, by omega, rfl, T1.out⟩
  case round =>
    obtain ⟨k, hk, rfl, hT, hB⟩ := hrel
    have TK : Hid (OwnVars w.heap.size wr.heap.size n k wr B S D) := hT
    have BK : Hid (Below w.heap.size w wr) := hB
    clear hT T1 hB
    by_cases hlt : (k : Int) < (n : Int)
    · have L : k < n := by omega
      obtain ⟨o, off, xa, xc, ya, yc, rfl, ho, p0, p1, p2, ar⟩ := (H.out.keep BK.out).at L
      have CT : Hid (Calls Try.prog 15 #[.agg #[.bool (B k), .slice xa (S k).length xc, .slice ya (D k).length yc]] wr fun e w' => ∃ xa' xc' ya' yc', e = .returned (.agg #[.bool (B k), .slice xa' (S k).length xc', .slice ya' (D k).length yc']) ∧ Arr wr.heap.size w'.heap.size w' (.agg #[.slice xa' (S k).length xc', .slice ya' (D k).length yc']) (S k) (D k) ∧ Below wr.heap.size wr w') := to_var ar (HL.out k).1 (HL.out k).2
      have PUT : Hid (∀ (W : World) (x' y' : Value), Below wr.heap.size wr W → Arr wr.heap.size W.heap.size W (.agg #[x', y']) (S k) (D k) → OwnVars w.heap.size W.heap.size n (k + 1) (((W.setCell ⟨w.heap.size, k * 3, none⟩ (.bool (B k))).setCell ⟨w.heap.size, k * 3 + 1, none⟩ x').setCell ⟨w.heap.size, k * 3 + 2, none⟩ y') B S D) := fun W x' y' hb hA => TK.out.put hb L hA
      clear ar ho
      generalize (S k).length = sl at *
      generalize (D k).length = dl at *
      generalize B k = bk at *
      go_wp2_with fail
      refine CT.out.mono ?_
      rintro r w2 ⟨xa2, xc2, ya2, yc2, rfl, hA, hb⟩
      have T3 : Hid (OwnVars w.heap.size w2.heap.size n (k + 1) (((w2.setCell ⟨w.heap.size, k * 3, none⟩ (.bool bk)).setCell ⟨w.heap.size, k * 3 + 1, none⟩ (.slice xa2 sl xc2)).setCell ⟨w.heap.size, k * 3 + 2, none⟩ (.slice ya2 dl yc2)) B S D) := PUT.out _ _ _ hb hA
      have B3 : Hid (Below w.heap.size w (((w2.setCell ⟨w.heap.size, k * 3, none⟩ (.bool bk)).setCell ⟨w.heap.size, k * 3 + 1, none⟩ (.slice xa2 sl xc2)).setCell ⟨w.heap.size, k * 3 + 2, none⟩ (.slice ya2 dl yc2))) := below_setCell (below_setCell (below_setCell (bTrans BK.out hb) (Nat.le_refl _) _ _) (Nat.le_refl _) _ _) (Nat.le_refl _) _ _
      obtain ⟨⟨⟨u0, c0⟩, ⟨u1, c1⟩, ⟨u2, c2⟩⟩, f0, f1, f2⟩ := (TK.out.keep hb).cells L
      clear hA hb
      go_wp2
      go_roundw
      case rel => exact ⟨k + 1, by omega, by go_num, by simpa only [size_setCell] using T3.out, B3.out⟩
      case measure => simp [intOf]; omega
    · obtain rfl : k = n := by omega
      go_wp2
      go_ret
      exact ⟨_, rfl, Nat.le_refl _, TK.out, BK.out⟩
/-- Marked from k0 on. -/
def MkdV (k0 : Int) (S0 D0 : Nat → List Int) (k : Nat) (B : Nat → Bool) (S D : Nat → List Int) : Prop :=
  ∀ i, i < k → B i = ((k0 + (totV S0 D0 i : Int)) % 3 == 0) ∧ S i = upFrom (k0 + (totV S0 D0 i : Int) + 1) (S0 i).length ∧ D i = upFrom (k0 + (totV S0 D0 i : Int) + 1 + (S0 i).length) (D0 i).length
set_option maxRecDepth 20000 in
set_option maxHeartbeats 8000000 in
/-- A list of letters is marked: its own cells turn, no other one. -/
theorem markVarS_at {o hi n : Nat} {w : World} {B : Nat → Bool} {S D : Nat → List Int} (h : OwnVars o hi n n w B S D) (hl : ∀ i, (S i).length ≤ 1048576 ∧ (D i).length ≤ 1048576) (hn : n ≤ 1048576) (k0 : Int) (p1 : 0 ≤ k0) (p2 : k0 ≤ 1099511627776) :
    Calls Try.prog 10 #[.slice (some ⟨o, 0, none⟩) n n, .int .i64 k0] w fun e w' => e = .returned (.int .i64 (k0 + (totV S D n : Int))) ∧ (∃ B' S' D', OwnVars o hi n n w' B' S' D' ∧ MkdV k0 S D n B' S' D') ∧ Win o hi w w' := by
  have H : Hid (OwnVars o hi n n w B S D) := h
  have HL : Hid (∀ i, (S i).length ≤ 1048576 ∧ (D i).length ≤ 1048576) := hl
  have HT : Hid (∀ i, i ≤ n → totV S D i ≤ 2199030000000) := fun i hi => totV_le hl (by omega)
  have T0 : Hid (totV S D 0 = 0) := rfl
  clear h hl
  go_enter Try.func10, Try.ntmps10
  go_wp2
  go_loopw [1, 5] (fun q i w' => ∃ (k : Nat) (B' : Nat → Bool) (S' D' : Nat → List Int), k ≤ n ∧ i = .int .i64 k ∧ q = .int .i64 (k0 + (totV S D k : Int)) ∧ OwnVars o hi n n w' B' S' D' ∧ MkdV k0 S D k B' S' D' ∧ (∀ i, k ≤ i → S' i = S i ∧ D' i = D i) ∧ Win o hi w w') (fun _ i _ => n - (intOf i).toNat)
  case atStart => exact ⟨0, B, S, D, by omega, rfl, by rw [T0.out]; simp, H.out, fun i hi => absurd hi (by omega), fun _ _ => ⟨rfl, rfl⟩, Win.refl _ _ _⟩
  case round =>
    obtain ⟨k, B', S', D', hk, rfl, rfl, hO, hM, hN, hW⟩ := hrel
    have HO : Hid (OwnVars o hi n n wr B' S' D') := hO
    have HM : Hid (MkdV k0 S D k B' S' D') := hM
    have HN : Hid (∀ i, k ≤ i → S' i = S i ∧ D' i = D i) := hN
    have HW : Hid (Win o hi w wr) := hW
    clear hO hM hN hW
    by_cases hlt : (k : Int) < (n : Int)
    · have L : k < n := by omega
      have ht := HT.out k hk
      have TS : totV S D (k + 1) = totV S D k + (1 + (S k).length + (D k).length) := rfl
      obtain ⟨⟨⟨u0, c0⟩, _⟩, f0, _⟩ := HO.out.cells L
      have hS := (HN.out k (Nat.le_refl _)).1
      have hD := (HN.out k (Nat.le_refl _)).2
      obtain ⟨xa, xc, ya, yc, cx, hall⟩ := HO.out.mark1 L ((k0 + (totV S D k : Int)) % 3 == 0) (by rw [hS]; exact (HL.out k).1) (by rw [hD]; exact (HL.out k).2) (k0 + (totV S D k : Int) + 1) (by omega) (by omega)
      rw [hS] at cx hall
      rw [hD] at hall
      have CM : Hid (Calls Try.prog 19 #[.slice xa (S k).length xc, .int .i64 (k0 + (totV S D k : Int) + 1)] (wr.setCell ⟨o, k * 3, none⟩ (.bool ((k0 + (totV S D k : Int)) % 3 == 0))) fun r w1 => r = .returned (.int .i64 (k0 + (totV S D k : Int) + 1 + (S k).length)) ∧ w1.cell? ⟨o, k * 3 + 2, none⟩ = some (.slice ya (D k).length yc) ∧
          Calls Try.prog 19 #[.slice ya (D k).length yc, .int .i64 (k0 + (totV S D k : Int) + 1 + (S k).length)] w1 fun r w' => r = .returned (.int .i64 (k0 + (totV S D (k + 1) : Int))) ∧ (∃ B'' S'' D'', OwnVars o hi n n w' B'' S'' D'' ∧ MkdV k0 S D (k + 1) B'' S'' D'' ∧ ∀ i, k + 1 ≤ i → S'' i = S i ∧ D'' i = D i) ∧ Win o hi w w') := by
        refine hall.mono ?_
        rintro r w1 ⟨rfl, hc, hall2⟩
        refine ⟨rfl, hc, hall2.mono ?_⟩
        rintro r w' ⟨rfl, h1, h2⟩
        refine ⟨by rw [TS]; congr 2; omega, ⟨_, _, _, h1, fun i hi => ?_, fun i hi => ?_⟩, HW.out.trans h2⟩
        · by_cases e : i = k
          · subst e; simp
          · simp only [if_neg e]; exact HM.out i (by omega)
        · simp only [if_neg (show ¬ i = k by omega)]; exact HN.out i (by omega)
      have lS := (HL.out k).1
      have lD := (HL.out k).2
      clear hall TS hS hD
      generalize (S k).length = sl at *
      generalize (D k).length = dl at *
      generalize hz' : totV S D (k + 1) = z' at CM
      have HZ' : Hid (totV S D (k + 1) = z') := hz'
      clear hz'
      generalize totV S D k = z at *
      go_wp2_with fail
      refine CM.out.mono ?_
      rintro r w1 ⟨rfl, cy, hc2⟩
      have CM2 : Hid (Calls Try.prog 19 #[.slice ya dl yc, .int .i64 (k0 + (z : Int) + 1 + (sl : Int))] w1 fun r w' => r = .returned (.int .i64 (k0 + (z' : Int))) ∧ (∃ B'' S'' D'', OwnVars o hi n n w' B'' S'' D'' ∧ MkdV k0 S D (k + 1) B'' S'' D'' ∧ ∀ i, k + 1 ≤ i → S'' i = S i ∧ D'' i = D i) ∧ Win o hi w w') := hc2
      clear hc2 CM cx c0 f0
      go_wp2_with fail
      refine CM2.out.mono ?_
      rintro r w2 ⟨rfl, ⟨B2, S2, D2, hO, hM, hN⟩, hW⟩
      have O2 : Hid (OwnVars o hi n n w2 B2 S2 D2) := hO
      have X2 : Hid (MkdV k0 S D (k + 1) B2 S2 D2 ∧ (∀ i, k + 1 ≤ i → S2 i = S i ∧ D2 i = D i) ∧ Win o hi w w2) := ⟨hM, hN, hW⟩
      clear hO hM hN hW CM2
      go_wp2
      go_roundw
      case rel => exact ⟨k + 1, B2, S2, D2, by omega, by go_num, by rw [HZ'.out], O2.out, X2.out⟩
      case measure => simp [intOf]; omega
    · have e : k = n := by omega
      subst e
      go_wp2
      go_ret
      exact ⟨rfl, ⟨B', S', D', HO.out, HM.out⟩, HW.out⟩
set_option maxRecDepth 20000 in
set_option maxHeartbeats 8000000 in
/-- What is marked is held. -/
theorem heldVarS_at {o hi n : Nat} {w : World} {B : Nat → Bool} {S D S0 D0 : Nat → List Int} (k0 : Int) (h : OwnVars o hi n n w B S D) (hm : MkdV k0 S0 D0 n B S D) (hl : ∀ i, (S0 i).length ≤ 1048576 ∧ (D0 i).length ≤ 1048576) (hn : n ≤ 1048576) (hT : totV S0 D0 n ≤ 1073741824) (p1 : 0 ≤ k0) (p2 : k0 ≤ 1073741824) :
    Calls Try.prog 22 #[.slice (some ⟨o, 0, none⟩) n n, .int .i64 k0] w fun e w' => e = .returned (.int .i64 (k0 + (totV S0 D0 n : Int))) ∧ w' = w := by
  have H : Hid (OwnVars o hi n n w B S D) := h
  have HM : Hid (MkdV k0 S0 D0 n B S D) := hm
  have HL : Hid (∀ i, (S0 i).length ≤ 1048576 ∧ (D0 i).length ≤ 1048576) := hl
  have HT : Hid (∀ i, i ≤ n → totV S0 D0 i ≤ 1073741824) := fun i hi => Nat.le_trans (totV_mono S0 D0 hi) hT
  have T0 : Hid (totV S0 D0 0 = 0) := rfl
  clear h hl hm hT
  go_enter Try.func22, Try.ntmps22
  go_wp2
  go_loop [1, 5] (fun q i => ∃ (k : Nat), k ≤ n ∧ i = .int .i64 k ∧ q = .int .i64 (k0 + (totV S0 D0 k : Int))) (fun _ i => n - (intOf i).toNat)
  case atStart => exact ⟨0, by omega, rfl, by rw [T0.out]; simp⟩
  case round =>
    obtain ⟨k, hk, rfl, rfl⟩ := hrel
    by_cases hlt : (k : Int) < (n : Int)
    · have L : k < n := by omega
      have ht := HT.out k hk
      have ht2 := HT.out (k + 1) (by omega)
      have TS : totV S0 D0 (k + 1) = totV S0 D0 k + (1 + (S0 k).length + (D0 k).length) := rfl
      obtain ⟨mb, ms, md⟩ := HM.out k L
      obtain ⟨A, x, y, lo, h1, h2, h3, h4, h5, h6, h7⟩ := H.out
      obtain ⟨⟨q0, q1, q2⟩, qz⟩ := h7 k L
      obtain ⟨x9, y9, ev, px, py, _⟩ := qz
      cases ev
      rw [ms] at px
      rw [md] at py
      obtain ⟨xa, xc, ex, _⟩ := px.ints
      obtain ⟨ya, yc, ey, _⟩ := py.ints
      rw [upFrom_length] at ex ey
      rw [ex] at px q1
      rw [ey] at py q2
      have c0 : w.cell? ⟨o, k * 3, none⟩ = some (.bool ((k0 + (totV S0 D0 k : Int)) % 3 == 0)) := by rw [cell_at h1 q0, mb]
      have c1 : w.cell? ⟨o, k * 3 + 1, none⟩ = some (.slice xa (S0 k).length xc) := cell_at h1 q1
      have c2 : w.cell? ⟨o, k * 3 + 2, none⟩ = some (.slice ya (D0 k).length yc) := cell_at h1 q2
      have bq : (((k0 + (totV S0 D0 k : Int)) % 3 == 0) != ((k0 + (totV S0 D0 k : Int)) % 3 == 0)) = false := by simp
      have CH : Hid (Calls Try.prog 28 #[.slice xa (S0 k).length xc, .int .i64 (k0 + (totV S0 D0 k : Int) + 1)] w fun e w' => e = .returned (.int .i64 (k0 + (totV S0 D0 k : Int) + 1 + (S0 k).length)) ∧ w' = w) := held_piece (k0 + (totV S0 D0 k : Int) + 1) px (HL.out k).1 (by omega) (by omega)
      have CH2 : Hid (Calls Try.prog 28 #[.slice ya (D0 k).length yc, .int .i64 (k0 + (totV S0 D0 k : Int) + 1 + (S0 k).length)] w fun e w' => e = .returned (.int .i64 (k0 + (totV S0 D0 (k + 1) : Int))) ∧ w' = w) := by
        refine (held_piece (k0 + (totV S0 D0 k : Int) + 1 + (S0 k).length) py (HL.out k).2 (by omega) (by omega)).mono ?_
        rintro e w' ⟨rfl, h⟩
        exact ⟨by rw [TS]; congr 2; omega, h⟩
      have PY : 0 ≤ k0 + (totV S0 D0 k : Int) + 1 + ((S0 k).length : Int) := by omega
      have PZ : 0 ≤ k0 + (totV S0 D0 (k + 1) : Int) := by omega
      clear q0 q1 q2 h1 h2 h3 h4 h5 h6 h7 px py ex ey mb ms md TS
      generalize (S0 k).length = sl at *
      generalize (D0 k).length = dl at *
      generalize hz' : totV S0 D0 (k + 1) = z' at CH2 PZ ht2
      have HZ' : Hid (totV S0 D0 (k + 1) = z') := hz'
      clear hz'
      generalize totV S0 D0 k = z at *
      go_wp2_with fail
      refine CH.out.mono ?_
      rintro r w' ⟨rfl, hw⟩
      subst w'
      clear CH
      go_wp2_with fail
      refine CH2.out.mono ?_
      rintro r w' ⟨rfl, hw⟩
      subst w'
      clear CH2
      go_wp2
      go_round
      case rel => exact ⟨k + 1, by omega, by go_num, by rw [HZ'.out]⟩
      case measure => simp [intOf]; omega
    · have e : k = n := by omega
      subst e
      go_wp2
      go_ret
      exact ⟨rfl, rfl⟩
end Go.Proofs.Ytmknleholglhbaa
