/-
  Walks: the specification's Scan.
-/
import Derived.Test.YtcpgdhffemecbabSpecRed
import Derived.Test.YtcpgdhffemecbabSpecMake1
import Derived.Test.YtcpgdhffemecbabSpecMake5
import Derived.Test.YtcpgdhffemecbabCuts
namespace Go.Proofs.Ytcpgdhffemecbab
open Go.RowKit
set_option linter.unusedVariables false
set_option linter.unusedSimpArgs false
/-- One array of one's own more. -/
theorem RI.grow {B : Nat} {w0 wr w2 : World} {v : Value} {k : Nat} {xs : List Value} {F : List (List Int)} {x y : Value} (h : RI B w0 wr v k xs F) (hk : k < 1000000) (hb : Below wr.heap.size wr w2)
    (ha : Arr wr.heap.size w2.heap.size w2 (.agg #[x, y]) (F.getD (2 * k) []) (F.getD (2 * k + 1) [])) :
    ∃ a' c' w', (Builtin.append_ #[68, 68] 68 #[v, .slice (some ⟨w2.heap.size, 0, none⟩) 1 1]).run Try.prog (w2.alloc (.cells #[x, y] 26)) = .ok (.slice a' (k + 1) c') w' ∧ RI B w0 w' (.slice a' (k + 1) c') (k + 1) (xs ++ [x, y]) F := by
  obtain ⟨i, hq, z1, z2, z3⟩ : ∃ i, Try.prog.info? 26 = some i ∧ i.zero = some (.agg #[.slice none 0 0, .slice none 0 0]) ∧ i.size = 2 ∧ i.bytes = 48 := by
    have hi := info_arr
    cases hq : Try.prog.info? 26 with
    | none => rw [hq] at hi; cases hi
    | some i => rw [hq] at hi; simp at hi; exact ⟨i, rfl, hi.1, hi.2.1, hi.2.2⟩
  obtain ⟨x', y', e', px, py, hap⟩ := ha
  obtain ⟨rfl, rfl⟩ : x = x' ∧ y = y' := by cases e'; exact ⟨rfl, rfl⟩
  obtain ⟨a1, c1, ex, _⟩ := px.ints
  obtain ⟨a2, c2, ey, _⟩ := py.ints
  have hz := hb.size
  have hB := h.size
  have hb' : Below wr.heap.size wr (w2.alloc (.cells #[x, y] 26)) := bAlloc hb _
  obtain ⟨g, cap, w', hr, h2, h3, h4, h5⟩ := run_append_lies (P := Try.prog) (w := w2.alloc (.cells #[x, y] 26)) 68 68 B 26 i _ 2 48 Try.underlying68 hq z1 z2 z3 rfl (by decide) v k xs (ownsRow_keep h.own hb') ⟨w2.heap.size, 0, none⟩ 1 1 [x, y] rfl (World.news_of_block (cs := #[x, y]) (heap_alloc_new w2 _)) (by rw [ex, ey]; simp [Value.oneCell']) (by decide) (by unfold maxLen; omega) (by omega) (by simp; omega) _ rfl
  refine ⟨_, _, w', hr, h.step hb' ?_ ?_ hap h2 h3 h4⟩
  · exact (px.keep (bAlloc (Below.refl _ _) _)).mono (Nat.le_refl _) (by simp)
  · exact (py.keep (bAlloc (Below.refl _ _) _)).mono (Nat.le_refl _) (by simp)
theorem ri_new (w : World) (F : List (List Int)) : RI w.heap.size w (w.alloc (.cells #[] 26)) (.slice (some ⟨w.heap.size, 0, none⟩) 0 0) 0 [] F :=
  ⟨⟨rfl, .inr ⟨w.heap.size, 0, #[], rfl, Nat.le_refl _, heap_alloc_new w _, Nat.le_refl _, by unfold maxLen; omega, rfl, rfl⟩⟩, fun j hj => by omega, fun i j _ hj => by omega, fun j hj => by omega, bAlloc (Below.refl _ _) _, by simp⟩
theorem catF_flat (t : List Int) (f : Nat → List Int) (n : Nat) : catF ((List.range n).flatMap (fun i => [t, f i])) n = (List.range n).flatMap f := by
  unfold catF
  rw [List.flatMap_def, List.flatMap_def]
  congr 1
  apply List.map_congr_left
  intro i hi
  exact flat2_odd (fun _ => t) f (by simpa using hi)
theorem scanR_bad {g : Int} {s d : List Int} (h : ¬ (arrOk s d = true ∧ sign2 g = true)) : scanR g s d = (1, [], []) := by
  unfold scanR; rw [show scanC g s d = 1 from by unfold scanC; rw [if_neg h]]; rfl
theorem scanR_nil {g : Int} {d : List Int} (h : arrOk [] d = true ∧ sign2 g = true) : scanR g [] d = (0, [], d) := by
  unfold scanR; rw [show scanC g [] d = 0 from by unfold scanC; rw [if_pos h, if_pos rfl]]; unfold scanD; rw [if_pos rfl]; rfl
theorem scanR_told {g : Int} {s d : List Int} (h : arrOk s d = true ∧ sign2 g = true) (hs : s ≠ []) : scanR g s d = mkR (firstC (fun i => (scanK g s d i).1) (rowsN s)) s ((List.range (rowsN s)).flatMap (fun i => (scanK g s d i).2)) := by
  unfold scanR scanC scanD; rw [if_pos h, if_neg hs, if_neg hs]
theorem scanK_len {g : Int} {s d : List Int} (ho : arrOk s d = true) (hs : s ≠ []) (i : Nat) : (scanK g s d i).2.length ≤ 300 := redL_len (take_ok (rowsD_ok ho hs) _)
set_option maxRecDepth 20000 in
set_option maxHeartbeats 8000000 in
/-- Scan. -/
theorem scan_spec {g : Int} {s d : List Int} {w : World} {v : Value} (h : ArrI w v s d) (hs : s.length ≤ 1048576) (hd : d.length ≤ 1048576) :
    Calls Try.prog 15 #[.int .i64 g, v] w fun e w' => ∃ v', e = .returned (.tuple #[v', .int .i64 (scanR g s d).1]) ∧ Arr w.heap.size w'.heap.size w' v' (scanR g s d).2.1 (scanR g s d).2.2 ∧ Below w.heap.size w w' := by
  have H : Hid (ArrI w v s d) := h
  obtain ⟨a, c, b, f, rfl, h1, h2, g1, _⟩ := h
  have HS : Hid (s.length ≤ 1048576) := hs
  have HD : Hid (d.length ≤ 1048576) := hd
  by_cases hgo : arrOk s d = true ∧ sign2 g = true
  · obtain ⟨ho, hg⟩ := hgo
    have HO : Hid (arrOk s d = true) := ho
    have HG : Hid (sign2 g = true) := hg
    by_cases hs0 : s = []
    · subst hs0
      rw [scanR_nil ⟨ho, hg⟩]
      clear ho hg h1 h2 hs hd g1
      go_enter Try.func15, Try.ntmps15
      go_wp2_with fail
      refine (arrOk_spec (H.out.keep (bAlloc (bAlloc (Below.refl _ _) _) _)) HD.out).mono ?_
      rintro r w1 ⟨rfl, hb⟩
      have HB1 : Hid (Below w.heap.size w w1) := bTrans (bAlloc (bAlloc (Below.refl _ _) _) _) hb
      have X1 : Hid (Box w1 w.heap.size (.slice a 0 c) (.slice b d.length f) 26) := ((box_new w _ _ _).keep (bAlloc (Below.refl _ _) _)).keep hb
      have Y1 : Hid (Box w1 (w.heap.size + 1) (.slice none 0 0) (.slice none 0 0) 26) := (box_new2 w _ _ _ _).keep hb
      have x0 := X1.out.c0
      have x1 := X1.out.c1
      have L1 : Hid (w.heap.size + 1 < w1.heap.size) := Y1.out.lt
      clear hb
      rw [HO.out]
      go_wp2_with (go_at_call 42; refine (sign2_spec _ _).mono ?_; rintro r w9 ⟨rfl, hw9⟩; subst w9; rw [HG.out])
      refine (copy_spec (H.out.keep HB1.out) HS.out HD.out).mono ?_
      rintro r w2 ⟨v', rfl, ha, hb⟩
      obtain ⟨a', c', b', f', rfl, _, _, _, _⟩ := ha.arrI
      have HA : Hid (Arr w1.heap.size w2.heap.size w2 (.agg #[.slice a' 0 c', .slice b' d.length f']) [] d) := ha
      have HB2 : Hid (Below w.heap.size w w2) := bTrans HB1.out hb
      have Y2 : Hid (Box w2 (w.heap.size + 1) (.slice none 0 0) (.slice none 0 0) 26) := Y1.out.keep hb
      clear ha hb x0 x1
      simp only [List.length_nil]
      have y0 := Y2.out.c0
      have y1 := Y2.out.c1
      have f0 : w2.frozen? ⟨w.heap.size + 1, 0, none⟩ = false := free_at Y2.out 0
      have f1 : w2.frozen? ⟨w.heap.size + 1, 1, none⟩ = false := free_at Y2.out 1
      have HR : Hid (((w2.setCell ⟨w.heap.size + 1, 0, none⟩ (.slice a' 0 c')).setCell ⟨w.heap.size + 1, 1, none⟩ (.slice b' d.length f')).heap[w.heap.size + 1]? = some (.cells #[.slice a' 0 c', .slice b' d.length f'] 26 (0, 0))) := arr_stored Y2.out
      go_wp2
      refine bodyPost_ret (results_arr_tmp Try.results15 _ _ (w.heap.size + 1) _ _ rfl HR.out) rfl ?_
      refine ⟨_, rfl, ?_, below_setCell (below_setCell HB2.out (by omega) _ _) (by omega) _ _⟩
      have L := L1.out
      exact ((HA.out.setCell L _ _).setCell L _ _).mono (by omega) (by simp only [size_setCell]; omega)
    · have HS0 : Hid (s ≠ []) := hs0
      have n1 : ((s.length : Int) == 0) = false := by
        have := List.length_pos_iff.2 hs0
        simp; omega
      obtain ⟨e1, e2⟩ := rowsN_bd ho
      obtain ⟨N, hN⟩ : ∃ N, N = rowsN s := ⟨_, rfl⟩
      have hn : N ≤ 300 := by omega
      have HRK : Hid (∀ i, i < (rowsD s d).length → arrOk (s.drop 1) ((rowsD s d).getD i []) = true) := rowsD_ok ho hs0
      have HRD : Hid ((rowsD s d).length = N) := by show _ = _; rw [rowsD_len, hN]
      have HL3 : Hid (∀ W, Below w.heap.size w W → Calls Try.prog 48 #[.agg #[.slice a s.length c, .slice b d.length f]] W fun e w' => ∃ v', e = .returned v' ∧ Arrs W.heap.size w'.heap.size w' v' (flatR (s.drop 1) (rowsD s d)) ∧ Below W.heap.size W w' ∧ CapOk v') := fun W hb => by rw [← rowsF_flat ho hs0]; exact l3rows_capne (H.out.keep hb) ho hs0
      obtain ⟨tl, ct, hcut, hti⟩ := tail_cut_ne h1 hs0 g1
      have ETA : Hid ((N : Int) :: s.drop 1 = s) := by show _ = _; rw [hN, ← e2]; exact cons_eta hs0
      have HTL : Hid ((s.drop 1).length ≤ 1000000) := by
        have := (sizeV_ok (arrOk_shape ho)).1
        show _ ≤ _; simp; omega
      have HKL : Hid (∀ i, (scanK g s d i).2.length ≤ 300) := scanK_len ho hs0
      have HKB : Hid (((List.range N).flatMap (fun i => (scanK g s d i).2)).length ≤ 1000000) := by
        have := flat_bound N 300 (fun i => (scanK g s d i).2) (scanK_len ho hs0)
        have : N * 300 ≤ 300 * 300 := Nat.mul_le_mul_right _ hn
        show _ ≤ _; omega
      have ER := scanR_told ⟨ho, hg⟩ hs0
      rw [← hN] at ER
      have EG : Hid (firstC (fun i => (scanK g s d i).1) N = 0 → scanR g s d = (0, s, (List.range N).flatMap (fun i => (scanK g s d i).2))) := fun q => by rw [ER, q]; rfl
      have EB : Hid (∀ k, k < N → firstC (fun i => (scanK g s d i).1) k = 0 → (scanK g s d k).1 ≠ 0 → scanR g s d = ((scanK g s d k).1, [], [])) := fun k hk h0 hc => by rw [ER, firstC_stop h0 hc hk, mkR_bad hc]
      have HK : Hid (∀ k, scanK g s d k = redL g (s.drop 1) ((rowsD s d).take (k + 1))) := fun k => rfl
      generalize rowsD s d = RD at *
      generalize s.drop 1 = t at *
      generalize scanK g s d = KF at *
      have HTI : Hid (IntsI w (.slice tl t.length ct) t) := hti
      obtain ⟨FF, hFF⟩ : ∃ FF, FF = (List.range N).flatMap (fun i => [t, (KF i).2]) := ⟨_, rfl⟩
      have HFA : Hid (∀ k, k < N → FF.getD (2 * k) [] = t ∧ FF.getD (2 * k + 1) [] = (KF k).2) := fun k hk => by rw [hFF]; exact flat2_at N k (fun _ => t) (fun i => (KF i).2) hk
      have HFL : Hid (FF.length = 2 * N) := by show _ = _; rw [hFF]; exact flat2_length N _ (fun _ => rfl)
      obtain ⟨DD, hDD⟩ : ∃ DD, DD = (List.range N).flatMap (fun i => (KF i).2) := ⟨_, rfl⟩
      have HFC : Hid (catF FF N = DD) := by show _ = _; rw [hFF, hDD]; exact catF_flat t _ N
      rw [← hDD] at EG HKB
      obtain ⟨QC, hQC⟩ : ∃ QC, QC = (scanR g s d).1 := ⟨_, rfl⟩
      obtain ⟨QS, hQS⟩ : ∃ QS, QS = (scanR g s d).2.1 := ⟨_, rfl⟩
      obtain ⟨QD, hQD⟩ : ∃ QD, QD = (scanR g s d).2.2 := ⟨_, rfl⟩
      rw [← hQS, ← hQC, ← hQD]
      have EG2 : Hid (firstC (fun i => (KF i).1) N = 0 → QC = 0 ∧ QS = s ∧ QD = DD) := fun q => by rw [hQC, hQS, hQD, EG.out q]; exact ⟨rfl, rfl, rfl⟩
      have EB2 : Hid (∀ k, k < N → firstC (fun i => (KF i).1) k = 0 → (KF k).1 ≠ 0 → QC = (KF k).1 ∧ QS = [] ∧ QD = []) := fun k hk h0 hc => by rw [hQC, hQS, hQD, EB.out k hk h0 hc]; exact ⟨rfl, rfl, rfl⟩
      have HA0 : Hid (∀ W u, ArrsI W u FF → IntsI W (.slice tl t.length ct) t → Calls Try.prog 50 #[u, .slice tl t.length ct] W fun e w' => ∃ v', e = .returned v' ∧ Arr W.heap.size w'.heap.size w' v' s DD ∧ Below W.heap.size W w') := by
        intro W u h1 h2
        have := rows5_spec h1 h2 HFL.out (by omega) HTL.out (by rw [HFC.out]; exact HKB.out)
        rw [ETA.out, HFC.out] at this
        exact this
      clear ER EG EB ho hg h1 h2 hs hd g1 hti hs0 e1 e2 hN hFF hDD hQC hQS hQD HFC
      go_enter Try.func15, Try.ntmps15
      go_wp2_with fail
      refine (arrOk_spec (H.out.keep (bAlloc (bAlloc (Below.refl _ _) _) _)) HD.out).mono ?_
      rintro r w1 ⟨rfl, hb⟩
      have HB1 : Hid (Below w.heap.size w w1) := bTrans (bAlloc (bAlloc (Below.refl _ _) _) _) hb
      have X1 : Hid (Box w1 w.heap.size (.slice a s.length c) (.slice b d.length f) 26) := ((box_new w _ _ _).keep (bAlloc (Below.refl _ _) _)).keep hb
      have Y1 : Hid (Box w1 (w.heap.size + 1) (.slice none 0 0) (.slice none 0 0) 26) := (box_new2 w _ _ _ _).keep hb
      have x0 := X1.out.c0
      have x1 := X1.out.c1
      have L1 : Hid (w.heap.size + 1 < w1.heap.size) := Y1.out.lt
      clear hb
      rw [HO.out]
      go_wp2_with (go_at_call 42; refine (sign2_spec _ _).mono ?_; rintro r w9 ⟨rfl, hw9⟩; subst w9; rw [HG.out])
      refine (HL3.out _ HB1.out).mono ?_
      rintro r w2 ⟨v2, rfl, ha, hb, hcap⟩
      have AR : Hid (ArrsI w2 v2 (flatR t RD)) := ha.arrsI
      obtain ⟨ra, rn, rc, rfl, e5, _⟩ := ha.arrsI
      obtain rfl : rn = N := by have := HRD.out; rw [flatR_len] at e5; omega
      have hcap2 : rn ≤ rc := hcap _ _ _ rfl
      have HB2 : Hid (Below w1.heap.size w1 w2) := hb
      have X2 : Hid (Box w2 w.heap.size (.slice a s.length c) (.slice b d.length f) 26) := X1.out.keep hb
      have Y2 : Hid (Box w2 (w.heap.size + 1) (.slice none 0 0) (.slice none 0 0) 26) := Y1.out.keep hb
      clear ha hb x0 x1 e5 hcap
      go_wp2
      generalize hW : w2.alloc (.cells #[] 26) = W3
      have L3 : Hid (RI w2.heap.size w2 W3 (.slice (some ⟨w2.heap.size, 0, none⟩) 0 0) 0 [] FF) := by rw [← hW]; exact ri_new w2 FF
      clear hW
      go_loopg [7, 8] rn (fun gk u i w' => ∃ (k : Nat) (ad : Option Addr) (cd : Nat) (xs : List Value), gk = rn - k ∧ k ≤ rn ∧ u = .slice ad k cd ∧ i = .int .i64 (k : Int) ∧ firstC (fun i => (KF i).1) k = 0 ∧ RI w2.heap.size w2 w' (.slice ad k cd) k xs FF)
      case atStart => exact ⟨0, _, _, _, rfl, by omega, rfl, rfl, rfl, L3.out⟩
      case round =>
        obtain ⟨k, ad, cd, xs, rfl, hk, rfl, rfl, hF0, hL⟩ := hrel
        have LK : Hid (RI w2.heap.size w2 wr (.slice ad k cd) k xs FF) := hL
        have HF0 : Hid (firstC (fun i => (KF i).1) k = 0) := hF0
        clear hL L3 hF0
        have XR : Hid (Box wr w.heap.size (.slice a s.length c) (.slice b d.length f) 26) := X2.out.keep LK.out.below
        have YR : Hid (Box wr (w.heap.size + 1) (.slice none 0 0) (.slice none 0 0) 26) := Y2.out.keep LK.out.below
        have BR : Hid (Below w.heap.size w wr) := bTrans HB1.out (bTrans HB2.out LK.out.below)
        by_cases hlt : (k : Int) < (rn : Int)
        · have hkn : k < rn := by omega
          obtain ⟨a6, c6, hup, hAR⟩ := arrs_upto (m := k + 1) AR.out hcap2 (by omega)
          rw [List.drop_zero, flatR_take] at hAR
          have eK : ((k + 1 : Nat) : Int) = (k : Int) + 1 := by simp
          rw [eK] at hup
          have HAR : Hid (ArrsI w2 (.slice a6 (k + 1) c6) (flatR t (RD.take (k + 1)))) := hAR
          have HE : Hid (∀ W, Below wr.heap.size wr W → Calls Try.prog 49 #[.int .i64 g, .slice a6 (k + 1) c6, .slice tl t.length ct] W fun r w' => ∃ v', r = .returned (.tuple #[v', .int .i64 (KF k).1]) ∧ Arr W.heap.size w'.heap.size w' v' (if (KF k).1 = 0 then t else []) (KF k).2 ∧ Below W.heap.size W w') := fun W hb => by
            rw [HK.out k]
            exact l7red_spec (HAR.out.keep (bTrans LK.out.below hb)) (by intro e; have q := congrArg List.length e; rw [List.length_take, HRD.out, List.length_nil] at q; omega) (take_ok HRK.out _) (by rw [List.length_take]; omega)
          obtain ⟨C, hC⟩ : ∃ C, C = (KF k).1 := ⟨_, rfl⟩
          obtain ⟨D', hD'⟩ : ∃ D', D' = (KF k).2 := ⟨_, rfl⟩
          obtain ⟨S', hS'⟩ : ∃ S', S' = (if (KF k).1 = 0 then t else []) := ⟨_, rfl⟩
          rw [← hS', ← hC, ← hD'] at HE
          have HSH : Hid (C = 0 → S' = t) := fun q => by rw [hS', ← hC, if_pos q]
          have HCE : Hid (C = (KF k).1) := hC
          have HDE : Hid (D' = (KF k).2) := hD'
          have z0 := XR.out.c0
          have hw1 : IntKind.i64.wrap ((k : Int) + 1) = (k : Int) + 1 := by rw [IntKind.wrap_i64]; omega
          have hk1 : (k : Int) + 1 ≤ (rn : Int) := by omega
          clear hC hS' hD' hAR
          go_wp2_with fail
          go_cut [9, 10] from 29 to 54 (fun p q w' => ∃ (gN : Nat) (aN : Option Addr) (cN : Nat) (bN : Option Addr) (eN : Nat), p = .pointer (some ⟨gN, 0, none⟩) ∧ q = .int .i64 C ∧ Box w' gN (.slice aN S'.length cN) (.slice bN D'.length eN) 26 ∧ Arr wr.heap.size w'.heap.size w' (.agg #[.slice aN S'.length cN, .slice bN D'.length eN]) S' D' ∧ Below wr.heap.size wr w')
          case first =>
            have q0 := (fun O : Obj => (show (World.drew (wr.alloc O)).cell? ⟨w.heap.size, 0, none⟩ = some (.slice a s.length c) from (XR.out.keep (bAlloc (Below.refl _ _) O)).c0))
            have LZ : Hid (w.heap.size < wr.heap.size) := XR.out.lt
            go_region_held3 (fun w' => w'.cell? ⟨w.heap.size, 0, none⟩ = some (.slice a s.length c))
              (first | with_reducible assumption | simp only [*] | exact z0)
              ((go_at_call 49; refine (HE.out _ (by repeat first | exact (Below.refl _ _).drew | exact Below.refl _ _ | refine bAlloc ?_ _ | refine Below.drew ?_)).mono ?_; rintro r w5 ⟨v5, rfl, ha5, hb5⟩; obtain ⟨xa5, xc5, ya5, yc5, rfl, _, _, _, _⟩ := ha5.arrI; have HB5 : Hid (Below wr.heap.size wr w5) := bTrans (by repeat first | exact (Below.refl _ _).drew | exact Below.refl _ _ | refine bAlloc ?_ _ | refine Below.drew ?_) hb5; have HA5 : Hid (Arr _ w5.heap.size w5 (.agg #[.slice xa5 S'.length xc5, .slice ya5 D'.length yc5]) S' D') := ha5; (try have bq : Hid (Box w5 wr.heap.size (.slice none 0 0) (.slice none 0 0) 26) := Box.keep (w := World.drew (World.alloc wr (.cells #[.slice none 0 0, .slice none 0 0] 26))) (box_new wr _ _ _) hb5); have d2 := (XR.out.keep HB5.out).c0; have e2 := (fun O : Obj => (XR.out.keep (bAlloc HB5.out O)).c0); (try have m0 := bq.out.c0); (try have m1 := bq.out.c1); (try have f0 : w5.frozen? ⟨wr.heap.size, 0, none⟩ = false := free_at bq.out 0); (try have f1 : w5.frozen? ⟨wr.heap.size, 1, none⟩ = false := free_at bq.out 1); (try have t0 := (fun (_ : Hid (Box w5 wr.heap.size (.slice none 0 0) (.slice none 0 0) 26)) (x y : Value) => (((XR.out.keep HB5.out).win (win_setCell _ wr.heap.size 0 x) (.inl LZ.out)).win (win_setCell _ wr.heap.size 1 y) (.inl LZ.out)).c0) bq); clear ha5 hb5))
            all_goals
              go_wp2_with fail
              go_meet
              case rel =>
                first
                  | exact ⟨w5.heap.size, _, _, _, _, rfl, rfl, box_new w5 _ _ _, (HA5.out.keep (bAlloc (Below.refl _ _) _)).mono (by first | exact Nat.le_refl _ | simp) (by simp), bAlloc HB5.out _⟩
                  | exact ⟨wr.heap.size, _, _, _, _, rfl, rfl, arr_stored bq.out, ((HA5.out.setCell (by simp) _ _).setCell (by simp) _ _).mono (by simp) (by simp [size_setCell]), below_setCell (below_setCell HB5.out (Nat.le_refl _) _ _) (Nat.le_refl _) _ _⟩
          case rest =>
            obtain ⟨gN, aN, cN, bN, eN, rfl, rfl, hbx, har, hbl⟩ := hcut
            have HBX : Hid (Box wc gN (.slice aN S'.length cN) (.slice bN D'.length eN) 26) := hbx
            have HAR2 : Hid (Arr wr.heap.size wc.heap.size wc (.agg #[.slice aN S'.length cN, .slice bN D'.length eN]) S' D') := har
            have HBL : Hid (Below wr.heap.size wr wc) := hbl
            have YC : Hid (Box wc (w.heap.size + 1) (.slice none 0 0) (.slice none 0 0) 26) := YR.out.keep hbl
            clear hbx har hbl z0 HE
            by_cases hc : C = 0
            · obtain rfl : S' = t := HSH.out hc
              have x0 := HBX.out.c0
              have x1 := HBX.out.c1
              obtain ⟨p1, p2⟩ := HFA.out k hkn
              obtain ⟨a7, c7, w7, hr7, hl7⟩ := LK.out.grow (by omega) HBL.out (by rw [p1, p2, ← HDE.out]; exact HAR2.out)
              have R7 : Hid (_ = _) := hr7
              have L7 : Hid (RI _ _ w7 _ (k + 1) _ FF) := hl7
              have F7 : Hid (firstC (fun i => (KF i).1) (k + 1) = 0) := firstC_go HF0.out (by rw [← HCE.out]; exact hc)
              have hcb : (C != 0) = false := by simpa using hc
              clear hr7 hl7 p1 p2 hc
              go_wp2_with (at_builtin; refine wpList_append_ty rfl _ _ 68 68 rfl _ _ _ rfl rfl R7.out ?_)
              go_roundg (rn - (k + 1))
              case measure => omega
              case rel => exact ⟨k + 1, _, _, _, rfl, by omega, rfl, by go_num, F7.out, L7.out⟩
            · have hcb : (C != 0) = true := by simpa using hc
              have EF : Hid (QC = C ∧ QS = [] ∧ QD = []) := by
                have q := EB2.out k hkn HF0.out (by rw [← HCE.out]; exact hc)
                rw [← HCE.out] at q
                exact q
              have y0 := YC.out.c0
              have y1 := YC.out.c1
              have f0 : wc.frozen? ⟨w.heap.size + 1, 0, none⟩ = false := free_at YC.out 0
              have f1 : wc.frozen? ⟨w.heap.size + 1, 1, none⟩ = false := free_at YC.out 1
              have HR : Hid (((wc.setCell ⟨w.heap.size + 1, 0, none⟩ (.slice none 0 0)).setCell ⟨w.heap.size + 1, 1, none⟩ (.slice none 0 0)).heap[w.heap.size + 1]? = some (.cells #[.slice none 0 0, .slice none 0 0] 26 (0, 0))) := arr_stored YC.out
              have HBW : Hid (Below w.heap.size w wc) := bTrans BR.out HBL.out
              clear hc
              go_wp2
              refine bodyPost_ret (results_arr_tmp Try.results15 _ _ (w.heap.size + 1) _ _ rfl HR.out) rfl ?_
              obtain ⟨rfl, rfl, rfl⟩ := EF.out
              exact ⟨_, rfl, arr_zero _ _ _, below_setCell (below_setCell HBW.out (by omega) _ _) (by omega) _ _⟩
        · obtain rfl : k = rn := by omega
          obtain ⟨rfl, rfl, rfl⟩ := EG2.out HF0.out
          have LA : Hid (ArrsI wr (.slice ad k cd) FF) := (LK.out.done HFL.out).arrsI
          have x0 := XR.out.c0
          have x1 := XR.out.c1
          have BW : Hid (Below w1.heap.size w1 wr) := bTrans HB2.out LK.out.below
          go_wp2_with fail
          refine (HA0.out _ _ LA.out (HTI.out.keep BR.out)).mono ?_
          rintro r w8 ⟨v8, rfl, ha, hb⟩
          obtain ⟨a8, c8, b8, f8, rfl, _, _, _, _⟩ := ha.arrI
          have HA : Hid (Arr w1.heap.size w8.heap.size w8 (.agg #[.slice a8 QS.length c8, .slice b8 QD.length f8]) QS QD) := ha.mono BW.out.size (Nat.le_refl _)
          have Y8 : Hid (Box w8 (w.heap.size + 1) (.slice none 0 0) (.slice none 0 0) 26) := YR.out.keep hb
          have HB8 : Hid (Below w.heap.size w w8) := bTrans BR.out hb
          clear ha hb x0 x1
          have y0 := Y8.out.c0
          have y1 := Y8.out.c1
          have f0 : w8.frozen? ⟨w.heap.size + 1, 0, none⟩ = false := free_at Y8.out 0
          have f1 : w8.frozen? ⟨w.heap.size + 1, 1, none⟩ = false := free_at Y8.out 1
          have HR : Hid (((w8.setCell ⟨w.heap.size + 1, 0, none⟩ (.slice a8 QS.length c8)).setCell ⟨w.heap.size + 1, 1, none⟩ (.slice b8 QD.length f8)).heap[w.heap.size + 1]? = some (.cells #[.slice a8 QS.length c8, .slice b8 QD.length f8] 26 (0, 0))) := arr_stored Y8.out
          go_wp2
          refine bodyPost_ret (results_arr_tmp Try.results15 _ _ (w.heap.size + 1) _ _ rfl HR.out) rfl ?_
          refine ⟨_, rfl, ?_, below_setCell (below_setCell HB8.out (by omega) _ _) (by omega) _ _⟩
          have L := L1.out
          exact ((HA.out.setCell L _ _).setCell L _ _).mono (by omega) (by simp only [size_setCell]; omega)
  · rw [scanR_bad hgo]
    by_cases ho : arrOk s d = true
    · have HO : Hid (arrOk s d = true) := ho
      have HG : Hid (sign2 g = false) := by show _ = _; cases q : sign2 g <;> simp_all
      clear ho h1 h2 hs hd g1 hgo
      go_enter Try.func15, Try.ntmps15
      go_wp2_with fail
      refine (arrOk_spec (H.out.keep (bAlloc (bAlloc (Below.refl _ _) _) _)) HD.out).mono ?_
      rintro r w1 ⟨rfl, hb⟩
      have HB1 : Hid (Below w.heap.size w w1) := bTrans (bAlloc (bAlloc (Below.refl _ _) _) _) hb
      have Y1 : Hid (Box w1 (w.heap.size + 1) (.slice none 0 0) (.slice none 0 0) 26) := (box_new2 w _ _ _ _).keep hb
      clear hb
      rw [HO.out]
      have y0 := Y1.out.c0
      have y1 := Y1.out.c1
      have f0 : w1.frozen? ⟨w.heap.size + 1, 0, none⟩ = false := free_at Y1.out 0
      have f1 : w1.frozen? ⟨w.heap.size + 1, 1, none⟩ = false := free_at Y1.out 1
      have HR : Hid (((w1.setCell ⟨w.heap.size + 1, 0, none⟩ (.slice none 0 0)).setCell ⟨w.heap.size + 1, 1, none⟩ (.slice none 0 0)).heap[w.heap.size + 1]? = some (.cells #[.slice none 0 0, .slice none 0 0] 26 (0, 0))) := arr_stored Y1.out
      go_wp2_with (go_at_call 42; refine (sign2_spec _ _).mono ?_; rintro r w9 ⟨rfl, hw9⟩; subst w9; rw [HG.out])
      refine bodyPost_ret (results_arr_tmp Try.results15 _ _ (w.heap.size + 1) _ _ rfl HR.out) rfl ?_
      exact ⟨_, rfl, arr_zero _ _ _, below_setCell (below_setCell HB1.out (by omega) _ _) (by omega) _ _⟩
    · have HO : Hid (arrOk s d = false) := by show _ = _; simpa using ho
      clear ho h1 h2 hs hd g1 hgo
      go_enter Try.func15, Try.ntmps15
      go_wp2_with fail
      refine (arrOk_spec (H.out.keep (bAlloc (bAlloc (Below.refl _ _) _) _)) HD.out).mono ?_
      rintro r w1 ⟨rfl, hb⟩
      have HB1 : Hid (Below w.heap.size w w1) := bTrans (bAlloc (bAlloc (Below.refl _ _) _) _) hb
      have Y1 : Hid (Box w1 (w.heap.size + 1) (.slice none 0 0) (.slice none 0 0) 26) := (box_new2 w _ _ _ _).keep hb
      clear hb
      rw [HO.out]
      have y0 := Y1.out.c0
      have y1 := Y1.out.c1
      have f0 : w1.frozen? ⟨w.heap.size + 1, 0, none⟩ = false := free_at Y1.out 0
      have f1 : w1.frozen? ⟨w.heap.size + 1, 1, none⟩ = false := free_at Y1.out 1
      have HR : Hid (((w1.setCell ⟨w.heap.size + 1, 0, none⟩ (.slice none 0 0)).setCell ⟨w.heap.size + 1, 1, none⟩ (.slice none 0 0)).heap[w.heap.size + 1]? = some (.cells #[.slice none 0 0, .slice none 0 0] 26 (0, 0))) := arr_stored Y1.out
      go_wp2
      refine bodyPost_ret (results_arr_tmp Try.results15 _ _ (w.heap.size + 1) _ _ rfl HR.out) rfl ?_
      exact ⟨_, rfl, arr_zero _ _ _, below_setCell (below_setCell HB1.out (by omega) _ _) (by omega) _ _⟩
end Go.Proofs.Ytcpgdhffemecbab
