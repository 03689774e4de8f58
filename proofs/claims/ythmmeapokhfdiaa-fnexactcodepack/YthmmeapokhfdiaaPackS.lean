/-
  Walks: the specification's CodePack.
-/
import Derived.Test.YthmmeapokhfdiaaPackI2
import Derived.Test.YthmmeapokhfdiaaCodeS3
namespace Go.Proofs.Ythmmeapokhfdiaa
open Go.RowKit
set_option linter.unusedVariables false
set_option linter.unusedSimpArgs false
set_option maxRecDepth 20000 in
set_option maxHeartbeats 8000000 in
/-- The specification's CodePack. -/
theorem codePack_spec {w : World} {v : Value} {n : Nat} {E : Nat → Nat → Int} {N : Nat → List Int} (h : InsI w v n E N) (hl : ∀ i, (N i).length ≤ 1048576) (hn : n ≤ 1048576) :
    Calls Try.prog 6 #[v] w fun r w' => PackPost w (codeB n E N) (if codeB n E N = true then packL n E N else []) r w' := by
  have H : Hid (InsI w v n E N) := h
  have CO : Hid (Calls Try.prog 19 #[v] w fun r w' => r = .returned (.bool (codeB n E N)) ∧ Below w.heap.size w w') := codeOk_spec h hl hn
  clear hl
  obtain ⟨a, c, rfl, _⟩ := h
  cases hc : codeB n E N
  · rw [hc] at CO
    rw [if_neg (by decide)]
    clear hc
    go_enter Try.func6, Try.ntmps6
    go_wp2_with fail
    refine CO.out.mono ?_
    rintro r w1 ⟨rfl, hb⟩
    have B1 : Hid (Below w.heap.size w w1) := hb
    clear hb
    go_wp2
    go_ret2
    exact ⟨_, _, rfl, newB_alloc w1 [] B1.out.size (by simp), bAlloc B1.out _⟩
  · rw [if_pos rfl]
    have hp := codeB_iff.1 hc
    have n60 : n ≤ 60 := hp.2.1
    have HI : Hid (∀ i, i < n → insB (E i) (N i) = true) := hp.2.2.1
    have HN : Hid (∀ i, i < n → (N i).length ≤ 300) := fun i hi => (insB_len (hp.2.2.1 i hi)).1
    rw [hc] at CO
    clear hc hp
    have EP : Hid (packL n E N = (n : Int) :: packN E N n) := rfl
    generalize packL n E N = PL at *
    go_enter Try.func6, Try.ntmps6
    go_wp2_with fail
    refine CO.out.mono ?_
    rintro r w1 ⟨rfl, hb⟩
    have B1 : Hid (Below w.heap.size w w1) := hb
    clear hb CO
    go_wp2_with fail
    generalize hW : w1.alloc (.cells #[.int .u8 (n : Int)] 5) = W1
    have N1 : Hid (NewB w1.heap.size W1 (.slice (some ⟨w1.heap.size, 0, none⟩) 1 1) ((n : Int) :: packN E N 0)) := by rw [← hW]; exact newB_alloc w1 [(n : Int)] (Nat.le_refl _) (by simp)
    have BB1 : Hid (Below w1.heap.size w1 W1) := by rw [← hW]; exact one_below
    clear hW
    go_loopw [4, 5] (fun u i w' => ∃ (k : Nat) (a1 : Option Addr) (c1 : Nat), k ≤ n ∧ u = .slice a1 ((n : Int) :: packN E N k).length c1 ∧ i = .int .i64 (k : Int) ∧ NewB w1.heap.size w' (.slice a1 ((n : Int) :: packN E N k).length c1) ((n : Int) :: packN E N k) ∧ Below w1.heap.size w1 w') (fun _ i _ => n - (intOf i).toNat)
    case atStart => exact ⟨0, _, _, by omega, rfl, rfl, N1.out, BB1.out⟩
    case round =>
      obtain ⟨k, a1, c1, hk, rfl, rfl, hN, hb⟩ := hrel
      have NK : Hid (NewB w1.heap.size wr (.slice a1 ((n : Int) :: packN E N k).length c1) ((n : Int) :: packN E N k)) := hN
      have BK : Hid (Below w1.heap.size w1 wr) := hb
      clear hN hb N1 BB1
      by_cases hlt : (k : Int) < (n : Int)
      · have L : k < n := by omega
        obtain ⟨o, off, xa, xc, rfl, ho, ⟨p0, p1, p2, p3, p4, p5⟩, ar⟩ := (H.out.keep (bTrans B1.out BK.out)).at L
        obtain ⟨_, _, ev, _, hi0⟩ := ar
        cases ev
        have NW : Hid (∀ W, Below w1.heap.size w1 W → Ints W xa (N k)) := by
          obtain ⟨o', off', xa', xc', e', ho', ⟨_, _, _, _, _, c5'⟩, ar'⟩ := H.out.at L
          cases e'
          have ec := (bTrans B1.out BK.out).cell (p := ⟨o, off + k * 6 + 5, none⟩) ho'
          rw [p5, c5'] at ec
          simp only [Option.some.injEq, Value.slice.injEq] at ec
          obtain ⟨_, _, ev', _, hi'⟩ := ar'
          cases ev'
          rw [← ec.1] at hi'
          exact fun W hW => hi'.keep (bTrans B1.out hW)
        have OK : Hid (E k 0 = 1 → (N k).all ok = true) := (insB_len (HI.out k L)).2
        have L3 : (N k).length ≤ 300 := HN.out k L
        have LP : Hid (((n : Int) :: packN E N k).length ≤ 144421) := by
          have := packN_len (E := E) (fun i hi => HN.out i hi) (Nat.le_of_lt L)
          show _ ≤ _
          simp only [List.length_cons]
          omega
        have ES : Hid ((n : Int) :: packN E N (k + 1) = ((n : Int) :: packN E N k) ++ packI (E k) (N k)) := rfl
        have EI : Hid (packI (E k) (N k) = [E k 0 % 256, E k 1 % 256, E k 2 % 256, E k 3 % 256, E k 4 % 256] ++ if E k 0 = 1 then [((N k).length : Int) % 256, ((N k).length : Int) / 256 % 256] ++ numsBy (N k) else []) := rfl
        obtain ⟨F', hF'⟩ : ∃ F', F' = (n : Int) :: packN E N (k + 1) := ⟨_, rfl⟩
        have HF' : Hid (F' = (n : Int) :: packN E N (k + 1)) := hF'
        rw [← hF', EI.out] at ES
        clear hF' EI hi0 L ho
        generalize (n : Int) :: packN E N k = A at *
        generalize N k = nl at *
        generalize E k 0 = q0 at *
        generalize E k 1 = q1 at *
        generalize E k 2 = q2 at *
        generalize E k 3 = q3 at *
        generalize E k 4 = q4 at *
        have hnew := heap_alloc_new wr (.cells #[.int .i64 q0, .int .i64 q1, .int .i64 q2, .int .i64 q3, .int .i64 q4, .slice xa nl.length xc] 47)
        obtain ⟨Wa, hWa⟩ : ∃ Wa, Wa = wr.alloc (.cells #[.int .i64 q0, .int .i64 q1, .int .i64 q2, .int .i64 q3, .int .i64 q4, .slice xa nl.length xc] 47) := ⟨_, rfl⟩
        have SZ : Wa.heap.size = wr.heap.size + 1 := by rw [hWa]; simp
        have BWa : Hid (Below w1.heap.size w1 Wa) := by rw [hWa]; exact bAlloc BK.out _
        have NKa : NewB w1.heap.size Wa (.slice a1 A.length c1) A := by rw [hWa]; exact NK.out.keep one_below
        obtain ⟨a5, c5, w5, hr, h5, hg5⟩ := growBs [q0 % 256, q1 % 256, q2 % 256, q3 % 256, q4 % 256] NKa BWa.out.size (by have := LP.out; simp; omega)
        rw [show (A ++ [q0 % 256, q1 % 256, q2 % 256, q3 % 256, q4 % 256]).length = A.length + 5 by simp] at hr h5 hg5
        have R5 : Hid ((Builtin.append_ #[24, 24] 24 #[.slice a1 A.length c1, .slice (some ⟨wr.heap.size + 1, 0, none⟩) 5 5]).run Try.prog ((wr.alloc (.cells #[.int .i64 q0, .int .i64 q1, .int .i64 q2, .int .i64 q3, .int .i64 q4, .slice xa nl.length xc] 47)).alloc (.cells #[.int .u8 (q0 % 256), .int .u8 (q1 % 256), .int .u8 (q2 % 256), .int .u8 (q3 % 256), .int .u8 (q4 % 256)] 5)) = .ok (.slice a5 (A.length + 5) c5) w5) := by show _ = _; rw [← hWa, ← SZ]; simpa [bvals] using hr
        have BX : Hid (w5.heap[wr.heap.size]? = some (.cells #[.int .i64 q0, .int .i64 q1, .int .i64 q2, .int .i64 q3, .int .i64 q4, .slice xa nl.length xc] 47 (0, 0))) := by
          show _ = _
          rw [hg5.block wr.heap.size (by omega) (fun e => by have := NK.out.own_lt _ e.symm; omega), hWa]
          exact hnew
        have N5 : Hid (NewB w1.heap.size w5 (.slice a5 (A.length + 5) c5) (A ++ [q0 % 256, q1 % 256, q2 % 256, q3 % 256, q4 % 256])) := h5
        have O5 : Hid (∀ j, (Value.slice a5 (A.length + 5) c5).ownBlock = some j → j ≠ wr.heap.size) := fun j hj => by
          rcases hg5.own with e | ⟨o, e, ho⟩
          · have := NK.out.own_lt j (by rw [← e]; exact hj)
            omega
          · rw [e] at hj
            cases hj
            omega
        have B5 : Hid (Below w1.heap.size w1 w5) := BWa.out.trans (hg5.below NKa.row BWa.out.size)
        clear hr h5 hg5 hnew NKa hWa SZ BWa
        have x0 : w5.cell? ⟨wr.heap.size, 0, none⟩ = some (.int .i64 q0) := cell_at BX.out rfl
        have x5 : w5.cell? ⟨wr.heap.size, 5, none⟩ = some (.slice xa nl.length xc) := cell_at BX.out rfl
        by_cases h1 : q0 = 1
        · subst h1
          rw [if_pos rfl] at ES
          have OKN : Hid (nl.all ok = true) := OK.out rfl
          have HG : Hid (∀ (v' : Value) (W : World), Gr (.slice a5 (A.length + 5) c5) w5 v' W → W.cell? ⟨wr.heap.size, 5, none⟩ = some (.slice xa nl.length xc)) := fun v' W hg => by
            have e : W.heap[wr.heap.size]? = _ := (hg.block wr.heap.size (lt_of_heapA BX.out) (fun e => O5.out _ e.symm rfl)).trans BX.out
            exact cell_at e rfl
          obtain ⟨D, hD⟩ : ∃ D, D = A ++ [1 % 256, q1 % 256, q2 % 256, q3 % 256, q4 % 256] := ⟨_, rfl⟩
          have DL : D.length = A.length + 5 := by rw [hD]; simp
          rw [← hD] at N5
          have ES2 : Hid (F' = (D ++ [(nl.length : Int) % 256, (nl.length : Int) / 256 % 256]) ++ numsBy nl) := by show _ = _; rw [ES.out, hD]; simp
          obtain ⟨a6, c6, w6, hr, h6, hg6⟩ := growBs [(nl.length : Int) % 256, (nl.length : Int) / 256 % 256] N5.out B5.out.size (by have := LP.out; rw [DL]; simp; omega)
          obtain ⟨G0, hG0⟩ : ∃ G0, G0 = D ++ [(nl.length : Int) % 256, (nl.length : Int) / 256 % 256] := ⟨_, rfl⟩
          have LG0 : G0.length = A.length + 5 + 2 := by rw [hG0, List.length_append, DL]; rfl
          rw [← hG0] at hr h6 hg6 ES2
          rw [LG0] at hr h6 hg6
          have R6 : Hid ((Builtin.append_ #[24, 24] 24 #[.slice a5 (A.length + 5) c5, .slice (some ⟨w5.heap.size, 0, none⟩) 2 2]).run Try.prog (w5.alloc (.cells #[.int .u8 ((nl.length : Int) % 256), .int .u8 ((nl.length : Int) / 256)] 5)) = .ok (.slice a6 (A.length + 5 + 2) c6) w6) := by show _ = _; rw [show ((nl.length : Int) / 256) = (nl.length : Int) / 256 % 256 by omega]; simpa [bvals] using hr
          have N6 : Hid (NewB w1.heap.size w6 (.slice a6 G0.length c6) G0) := by show NewB _ _ _ _; rw [LG0]; exact h6
          have GR6 : Hid (Gr (.slice a5 (A.length + 5) c5) w5 (.slice a6 G0.length c6) w6) := by show Gr _ _ _ _; rw [LG0]; exact hg6
          have LG : Hid (G0.length = A.length + 5 + 2) := LG0
          have BE : Hid (∀ (v' : Value) (W : World), Gr (.slice a5 (A.length + 5) c5) w5 v' W → Below w1.heap.size w1 W) := fun v' W hg => B5.out.trans (hg.below N5.out.row B5.out.size)
          have LGB : Hid (G0.length + 8 * nl.length ≤ 1000000) := by have := LP.out; show _ ≤ _; rw [LG0]; omega
          clear hD DL hr h6 hg6 hG0 LG0
          go_wp2_with (first | (at_builtin; refine wpList_append_ty rfl _ _ 24 24 rfl _ _ _ rfl rfl R5.out ?_) | (at_builtin; refine wpList_append_ty rfl _ _ 24 24 rfl _ _ _ rfl rfl R6.out ?_))
          generalize wr.heap.size = bx at *
          rw [show A.length + 5 + 2 = G0.length from LG.out.symm]
          go_loopw [4, 7] (fun u i w' => ∃ (k : Nat) (a2 : Option Addr) (c2 : Nat), k ≤ nl.length ∧ u = .slice a2 (G0 ++ numsBy (nl.take k)).length c2 ∧ i = .int .i64 (k : Int) ∧ NewB w1.heap.size w' (.slice a2 (G0 ++ numsBy (nl.take k)).length c2) (G0 ++ numsBy (nl.take k)) ∧ Gr (.slice a5 (A.length + 5) c5) w5 u w') (fun _ i _ => nl.length - (intOf i).toNat)
          case atStart => exact ⟨0, a6, c6, by omega, by simp [numsBy], rfl, by simpa [numsBy] using N6.out, by simpa using GR6.out⟩
          case round =>
            obtain ⟨k2, a2, c2, hk2, rfl, rfl, hN, hG⟩ := hrel
            have NK2 : Hid (NewB w1.heap.size wr (.slice a2 (G0 ++ numsBy (nl.take k2)).length c2) (G0 ++ numsBy (nl.take k2))) := hN
            have GK : Hid (Gr (.slice a5 (A.length + 5) c5) w5 (.slice a2 (G0 ++ numsBy (nl.take k2)).length c2) wr) := hG
            have p5 : wr.cell? ⟨bx, 5, none⟩ = some (.slice xa nl.length xc) := HG.out _ _ hG
            clear hN hG x0 x5
            by_cases hlt2 : (k2 : Int) < (nl.length : Int)
            · have L2 : k2 < nl.length := by omega
              obtain ⟨b1, o1, rfl, _, cx⟩ := (NW.out _ (BE.out _ _ GK.out)).at L2
              have ET : Hid (G0 ++ numsBy (nl.take (k2 + 1)) = (G0 ++ numsBy (nl.take k2)) ++ num8 (nl.getD k2 0 + 1000000000000)) := by show _ = _; rw [numsBy_take L2, List.append_assoc]
              have LA : Hid ((G0 ++ numsBy (nl.take k2)).length + 8 ≤ 1000000) := by
                have := LGB.out
                show _ ≤ _
                rw [List.length_append, numsBy_len, List.length_take]
                omega
              have OKx : ok (nl.getD k2 0) = true := List.all_eq_true.1 OKN.out (nl.getD k2 0) (by simp [L2])
              obtain ⟨F2, hF2⟩ : ∃ F2, F2 = G0 ++ numsBy (nl.take (k2 + 1)) := ⟨_, rfl⟩
              have HF2 : Hid (F2 = G0 ++ numsBy (nl.take (k2 + 1))) := hF2
              rw [← hF2] at ET
              clear hF2 L2
              generalize G0 ++ numsBy (nl.take k2) = A2 at *
              generalize nl.getD k2 0 = x at *
              have x0 : -1000000000000 ≤ x ∧ x ≤ 1000000000000 := by unfold ok at OKx; simpa using OKx
              clear OKx
              obtain ⟨y, hy⟩ : ∃ y, y = x + 1000000000000 := ⟨_, rfl⟩
              have y0 : 0 ≤ y := by omega
              have y1 : y ≤ 2000000000000 := by omega
              rw [← hy] at ET
              have HY : Hid (x + 1000000000000 = y) := hy.symm
              clear hy
              go_wp2_with fail
              rw [HY.out]
              go_loopw [4, 9] (fun u i w' => ∃ (j : Nat) (a3 : Option Addr) (c3 : Nat), j ≤ 8 ∧ u = .slice a3 (A2 ++ (num8 y).take j).length c3 ∧ i = .int .i64 (j : Int) ∧ NewB w1.heap.size w' (.slice a3 (A2 ++ (num8 y).take j).length c3) (A2 ++ (num8 y).take j) ∧ Gr (.slice a5 (A.length + 5) c5) w5 u w') (fun _ i _ => 8 - (intOf i).toNat)
              case atStart => exact ⟨0, a2, c2, by omega, by simp, rfl, by simpa using NK2.out, by simpa using GK.out⟩
              case round =>
                obtain ⟨j, a3, c3, hj, rfl, rfl, hN, hb⟩ := hrel
                have NJ : Hid (NewB w1.heap.size wr (.slice a3 (A2 ++ (num8 y).take j).length c3) (A2 ++ (num8 y).take j)) := hN
                have BJ : Hid (Gr (.slice a5 (A.length + 5) c5) w5 (.slice a3 (A2 ++ (num8 y).take j).length c3) wr) := hb
                clear hN hb
                by_cases hjt : (j : Int) < 8
                · have LJ : j < 8 := by omega
                  have EJ : A2 ++ (num8 y).take (j + 1) = (A2 ++ (num8 y).take j) ++ [y / 256 ^ j % 256] := by rw [num8_take y LJ, List.append_assoc]
                  have LJ2 : (A2 ++ (num8 y).take j).length ≤ 1000000 := by have := LA.out; rw [List.length_append, List.length_take, num8_len]; omega
                  obtain ⟨G', hG'⟩ : ∃ G', G' = A2 ++ (num8 y).take (j + 1) := ⟨_, rfl⟩
                  have HG' : Hid (G' = A2 ++ (num8 y).take (j + 1)) := hG'
                  rw [← hG'] at EJ
                  clear hG'
                  generalize A2 ++ (num8 y).take j = G at *
                  obtain ⟨a5', c5', w5', hr, h5, hb5⟩ := growBs [y / 256 ^ j % 256] NJ.out (BE.out _ _ BJ.out).size (by simp; omega)
                  rw [← EJ] at hr h5
                  have LG' : Hid (G'.length = G.length + 1) := by show _ = _; rw [EJ]; simp
                  rw [LG'.out] at hr h5
                  rw [show (G ++ [y / 256 ^ j % 256]).length = G.length + 1 by simp] at hb5
                  have EP2 : (256 : Int) ^ j = 2 ^ (8 * j) := by rw [Int.pow_mul]; rfl
                  have R9 : Hid ((Builtin.append_ #[24, 24] 24 #[.slice a3 G.length c3, .slice (some ⟨wr.heap.size, 0, none⟩) 1 1]).run Try.prog (wr.alloc (.cells #[.int .u8 (y / 2 ^ (8 * j) % 256)] 5)) = .ok (.slice a5' (G.length + 1) c5') w5') := by show _ = _; rw [← EP2]; simpa [bvals] using hr
                  have N9 : Hid (NewB w1.heap.size w5' (.slice a5' (G.length + 1) c5') G') := h5
                  have B9 : Hid (Gr (.slice a5 (A.length + 5) c5) w5 (.slice a5' (G.length + 1) c5') w5') := BJ.out.trans hb5
                  clear hr h5 hb5 EJ EP2
                  go_wp2_with (at_builtin; refine wpList_append_ty rfl _ _ 24 24 rfl _ _ _ rfl rfl R9.out ?_)
                  go_roundw
                  case rel => exact ⟨j + 1, a5', c5', by omega, by rw [← HG'.out, LG'.out], by go_num, by rw [← HG'.out, LG'.out]; exact N9.out, B9.out⟩
                  case measure => simp [intOf]; omega
                · obtain rfl : j = 8 := by omega
                  have E8 : Hid (A2 ++ (num8 y).take 8 = F2) := by show _ = _; rw [ET.out, List.take_of_length_le (by rw [num8_len]; omega)]
                  rw [E8.out] at NJ BJ ⊢
                  go_wp2
                  go_roundw
                  case rel => exact ⟨k2 + 1, a3, c3, by omega, by rw [← HF2.out], by go_num, by rw [← HF2.out]; exact NJ.out, BJ.out⟩
                  case measure => simp [intOf]; omega
            · obtain rfl : k2 = nl.length := by omega
              have E8 : nl.take nl.length = nl := List.take_length
              rw [E8, ← ES2.out] at NK2 GK ⊢
              go_wp2
              go_roundw
              case rel => exact ⟨k + 1, a2, c2, by omega, by rw [← HF'.out], by go_num, by rw [← HF'.out]; exact NK2.out, BE.out _ _ GK.out⟩
              case measure => simp [intOf]; omega
        · have b1 : (q0 != 1) = true := by simpa using h1
          rw [if_neg h1, List.append_nil] at ES
          clear h1
          go_wp2_with (at_builtin; refine wpList_append_ty rfl _ _ 24 24 rfl _ _ _ rfl rfl R5.out ?_)
          go_roundw
          case rel => exact ⟨k + 1, a5, c5, by omega, by rw [← HF'.out, ES.out]; simp, by go_num, by rw [← HF'.out, ES.out]; simpa using N5.out, B5.out⟩
          case measure => simp [intOf]; omega
      · obtain rfl : k = n := by omega
        have EQ : Hid ((k : Int) :: packN E N k = PL) := EP.out.symm
        rw [EQ.out] at NK ⊢
        go_wp2
        go_ret2
        exact ⟨_, _, rfl, NK.out.mono B1.out.size, bTrans B1.out BK.out⟩
end Go.Proofs.Ythmmeapokhfdiaa
