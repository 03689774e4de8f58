/-
  Walks: the specification's Iota.
-/
import Derived.Test.YthjjjnapcbkhjaaSpecMake1
import Derived.Test.YthjjjnapcbkhjaaGrow
namespace Go.Proofs.Ythjjjnapcbkhjaa
open Go.RowKit
set_option linter.unusedVariables false
set_option linter.unusedSimpArgs false
theorem blocks3 (w : World) (A B C : Obj) : (((w.alloc A).alloc B).alloc C).heap[w.heap.size]? = some A ∧ (((w.alloc A).alloc B).alloc C).heap[w.heap.size + 1]? = some B ∧ (((w.alloc A).alloc B).alloc C).heap[w.heap.size + 1 + 1]? = some C := by
  have e1 := heap_alloc_new w A
  have e2 := heap_alloc_new (w.alloc A) B
  have e3 := heap_alloc_new ((w.alloc A).alloc B) C
  simp only [World.size_alloc] at e2 e3
  refine ⟨?_, ?_, e3⟩
  · rw [heap_alloc_old _ _ (by simp only [World.size_alloc]; omega), heap_alloc_old _ _ (by simp only [World.size_alloc]; omega)]; exact e1
  · rw [heap_alloc_old _ _ (by simp only [World.size_alloc]; omega)]; exact e2
theorem one_list {d : List Int} (h : d.length = 1) : d = [d.getD 0 0] := by
  match d, h with
  | [x], _ => rfl
set_option maxRecDepth 20000 in
set_option maxHeartbeats 4000000 in
/-- Iota. -/
theorem iota_spec {s d : List Int} {w : World} {v : Value} (h : ArrI w v s d) (hd : d.length ≤ 1048576) :
    Calls Try.prog 12 #[v] w fun e w' => ∃ v', e = .returned (.tuple #[v', .int .i64 (iotaR s d).1]) ∧ Arr w.heap.size w'.heap.size w' v' (iotaR s d).2.1 (iotaR s d).2.2 ∧ Below w.heap.size w w' := by
  have H : Hid (ArrI w v s d) := h
  obtain ⟨a, c, b, f, rfl, h1, h2, _, _⟩ := h
  have H2 : Hid (Ints w b d) := h2
  have HD : Hid (d.length ≤ 1048576) := hd
  clear h1 h2 hd
  by_cases ho : arrOk s d = true
  · have HO : Hid (arrOk s d = true) := ho
    by_cases hl : d.length = 1
    · have n1 : ((d.length : Int) != 1) = false := by simp [hl]
      obtain ⟨b1, o1, rfl, hb1, c1⟩ := H2.out.at (k := 0) (by omega)
      rw [Nat.add_zero] at c1
      have hlt : (0 : Int) < (d.length : Int) := by omega
      have CC : Hid (∀ W, Below w.heap.size w W → W.cell? ⟨b1, o1, none⟩ = some (.int .i64 (d.getD 0 0))) := fun W h => (h.cell (p := ⟨b1, o1, none⟩) hb1).trans c1
      have EC : iotaC s d = if d.getD 0 0 < 0 then 2 else if 300 < d.getD 0 0 then 6 else 0 := by unfold iotaC; rw [if_pos ho, if_neg (by simpa using hl)]
      have EI : iotaR s d = mkR (if d.getD 0 0 < 0 then 2 else if 300 < d.getD 0 0 then 6 else 0) [d.getD 0 0] ((List.range (d.getD 0 0).toNat).map (fun (i : Nat) => (i : Int))) := by unfold iotaR; rw [EC]
      rw [EI]
      clear EI EC ho hl c1
      generalize d.getD 0 0 = x at *
      by_cases h1 : x < 0
      · rw [if_pos h1, mkR_bad (by decide)]
        go_enter Try.func12, Try.ntmps12
        go_wp2_with fail
        refine (arrOk_spec (H.out.keep (bAlloc (bAlloc (bAlloc (Below.refl _ _) _) _) _)) HD.out).mono ?_
        rintro r w1 ⟨rfl, hb⟩
        have HB1 : Hid (Below w.heap.size w w1) := bTrans (bAlloc (bAlloc (bAlloc (Below.refl _ _) _) _) _) hb
        have q1 := blocks3 w (.cells #[.slice a s.length c, .slice (some ⟨b1, o1, none⟩) d.length f] 26) (.cells #[.slice none 0 0, .slice none 0 0] 26) (.cells #[.slice none 0 0, .slice none 0 0] 26)
        have X1 : Hid (Box w1 w.heap.size (.slice a s.length c) (.slice (some ⟨b1, o1, none⟩) d.length f) 26) := Box.keep q1.1 hb
        have Y1 : Hid (Box w1 (w.heap.size + 1) (.slice none 0 0) (.slice none 0 0) 26) := Box.keep q1.2.1 hb
        have Z1 : Hid (Box w1 (w.heap.size + 1 + 1) (.slice none 0 0) (.slice none 0 0) 26) := Box.keep q1.2.2 hb
        clear hb q1
        rw [HO.out]
        have x0 := X1.out.c0
        have x1 := X1.out.c1
        have y0 := Y1.out.c0
        have y1 := Y1.out.c1
        have z0 := Z1.out.c0
        have z1 := Z1.out.c1
        have f0 : w1.frozen? ⟨w.heap.size + 1, 0, none⟩ = false := free_at Y1.out 0
        have f1 : w1.frozen? ⟨w.heap.size + 1, 1, none⟩ = false := free_at Y1.out 1
        have cx := CC.out _ HB1.out
        have HR : Hid (((w1.setCell ⟨w.heap.size + 1, 0, none⟩ (.slice none 0 0)).setCell ⟨w.heap.size + 1, 1, none⟩ (.slice none 0 0)).heap[w.heap.size + 1]? = some (.cells #[.slice none 0 0, .slice none 0 0] 26 (0, 0))) := arr_stored Y1.out
        go_wp2
        refine bodyPost_ret (results_arr_tmp Try.results12 _ _ (w.heap.size + 1) _ _ rfl HR.out) rfl ?_
        exact ⟨_, rfl, arr_zero _ _ _, below_setCell (below_setCell HB1.out (by omega) _ _) (by omega) _ _⟩
      · by_cases h2 : 300 < x
        · rw [if_neg h1, if_pos h2, mkR_bad (by decide)]
          go_enter Try.func12, Try.ntmps12
          go_wp2_with fail
          refine (arrOk_spec (H.out.keep (bAlloc (bAlloc (bAlloc (Below.refl _ _) _) _) _)) HD.out).mono ?_
          rintro r w1 ⟨rfl, hb⟩
          have HB1 : Hid (Below w.heap.size w w1) := bTrans (bAlloc (bAlloc (bAlloc (Below.refl _ _) _) _) _) hb
          have q1 := blocks3 w (.cells #[.slice a s.length c, .slice (some ⟨b1, o1, none⟩) d.length f] 26) (.cells #[.slice none 0 0, .slice none 0 0] 26) (.cells #[.slice none 0 0, .slice none 0 0] 26)
          have X1 : Hid (Box w1 w.heap.size (.slice a s.length c) (.slice (some ⟨b1, o1, none⟩) d.length f) 26) := Box.keep q1.1 hb
          have Y1 : Hid (Box w1 (w.heap.size + 1) (.slice none 0 0) (.slice none 0 0) 26) := Box.keep q1.2.1 hb
          have Z1 : Hid (Box w1 (w.heap.size + 1 + 1) (.slice none 0 0) (.slice none 0 0) 26) := Box.keep q1.2.2 hb
          clear hb q1
          rw [HO.out]
          have x0 := X1.out.c0
          have x1 := X1.out.c1
          have y0 := Y1.out.c0
          have y1 := Y1.out.c1
          have z0 := Z1.out.c0
          have z1 := Z1.out.c1
          have f0 : w1.frozen? ⟨w.heap.size + 1, 0, none⟩ = false := free_at Y1.out 0
          have f1 : w1.frozen? ⟨w.heap.size + 1, 1, none⟩ = false := free_at Y1.out 1
          have cx := CC.out _ HB1.out
          have hge : 0 ≤ x := by omega
          have HR : Hid (((w1.setCell ⟨w.heap.size + 1, 0, none⟩ (.slice none 0 0)).setCell ⟨w.heap.size + 1, 1, none⟩ (.slice none 0 0)).heap[w.heap.size + 1]? = some (.cells #[.slice none 0 0, .slice none 0 0] 26 (0, 0))) := arr_stored Y1.out
          go_wp2
          refine bodyPost_ret (results_arr_tmp Try.results12 _ _ (w.heap.size + 1) _ _ rfl HR.out) rfl ?_
          exact ⟨_, rfl, arr_zero _ _ _, below_setCell (below_setCell HB1.out (by omega) _ _) (by omega) _ _⟩
        · rw [if_neg h1, if_neg h2, mkR_good]
          obtain ⟨n, rfl⟩ : ∃ n : Nat, x = (n : Int) := ⟨x.toNat, by omega⟩
          have hn : n ≤ 300 := by omega
          clear h1 h2
          rw [Int.toNat_natCast]
          have HV : Hid (∀ W a' c' (l : List Int), l = (List.range n).map (fun (i : Nat) => (i : Int)) → Ints W a' l → Calls Try.prog 40 #[.slice a' n c'] W fun e w' => ∃ v, e = .returned v ∧ Arr W.heap.size w'.heap.size w' v [(n : Int)] ((List.range n).map (fun (i : Nat) => (i : Int))) ∧ Below W.heap.size W w') := by
            intro W a' c' l hl h
            have hz : l.length = n := by rw [hl]; simp
            have := vector_spec c' h (by omega)
            rw [hz, hl] at this
            exact this
          obtain ⟨D, hD⟩ : ∃ D, D = (List.range n).map (fun (i : Nat) => (i : Int)) := ⟨_, rfl⟩
          obtain ⟨S, hS⟩ : ∃ S, S = [(n : Int)] := ⟨_, rfl⟩
          have HDD : Hid (D = (List.range n).map (fun (i : Nat) => (i : Int))) := hD
          rw [← hD, ← hS] at HV
          rw [← hD, ← hS]
          clear hD hS
          go_enter Try.func12, Try.ntmps12
          go_wp2_with fail
          refine (arrOk_spec (H.out.keep (bAlloc (bAlloc (bAlloc (Below.refl _ _) _) _) _)) HD.out).mono ?_
          rintro r w1 ⟨rfl, hb⟩
          have HB1 : Hid (Below w.heap.size w w1) := bTrans (bAlloc (bAlloc (bAlloc (Below.refl _ _) _) _) _) hb
          have q1 := blocks3 w (.cells #[.slice a s.length c, .slice (some ⟨b1, o1, none⟩) d.length f] 26) (.cells #[.slice none 0 0, .slice none 0 0] 26) (.cells #[.slice none 0 0, .slice none 0 0] 26)
          have X1 : Hid (Box w1 w.heap.size (.slice a s.length c) (.slice (some ⟨b1, o1, none⟩) d.length f) 26) := Box.keep q1.1 hb
          have Y1 : Hid (Box w1 (w.heap.size + 1) (.slice none 0 0) (.slice none 0 0) 26) := Box.keep q1.2.1 hb
          have Z1 : Hid (Box w1 (w.heap.size + 1 + 1) (.slice none 0 0) (.slice none 0 0) 26) := Box.keep q1.2.2 hb
          clear hb q1
          rw [HO.out]
          have x0 := X1.out.c0
          have x1 := X1.out.c1
          have y0 := Y1.out.c0
          have y1 := Y1.out.c1
          have z0 := Z1.out.c0
          have z1 := Z1.out.c1
          have f0 : w1.frozen? ⟨w.heap.size + 1, 0, none⟩ = false := free_at Y1.out 0
          have f1 : w1.frozen? ⟨w.heap.size + 1, 1, none⟩ = false := free_at Y1.out 1
          have cx := CC.out _ HB1.out
          go_wp2
          generalize hW : w1.alloc (.cells #[] 3) = W0
          have N0 : Hid (NewInts w1.heap.size W0 (.slice (some ⟨w1.heap.size, 0, none⟩) 0 0) []) := by rw [← hW]; exact newInts_alloc w1 [] (Nat.le_refl _) (by simp)
          have B0 : Hid (Below w1.heap.size w1 W0) := by rw [← hW]; exact bAlloc (Below.refl _ _) _
          clear hW
          go_loopw [5, 6] (fun u i w' => ∃ (k : Nat) (ad : Option Addr) (cd : Nat), k ≤ n ∧ u = .slice ad k cd ∧ i = .int .i64 (k : Int) ∧ NewInts w1.heap.size w' (.slice ad k cd) ((List.range k).map (fun (i : Nat) => (i : Int))) ∧ Below w1.heap.size w1 w') (fun _ i _ => n - (intOf i).toNat)
          case atStart => exact ⟨0, _, _, by omega, rfl, rfl, N0.out, B0.out⟩
          case round =>
            obtain ⟨k, ad, cd, hk, rfl, rfl, hN, hB⟩ := hrel
            have NK : Hid (NewInts w1.heap.size wr (.slice ad k cd) ((List.range k).map (fun (i : Nat) => (i : Int)))) := hN
            have BK : Hid (Below w1.heap.size w1 wr) := hB
            clear hN hB x0 x1 y0 y1 z0 z1 f0 f1 cx
            have x0 := (X1.out.keep BK.out).c0
            have x1 := (X1.out.keep BK.out).c1
            have cx := CC.out _ (bTrans HB1.out BK.out)
            by_cases hlt2 : (k : Int) < (n : Int)
            · obtain ⟨a5, c5, w5, hr, h5, hb5⟩ := grow1 (k : Int) NK.out BK.out.size (by simp; omega)
              have R5 : Hid ((Builtin.append_ #[24, 24] 24 #[.slice ad k cd, .slice (some ⟨wr.heap.size, 0, none⟩) 1 1]).run Try.prog (wr.alloc (.cells #[.int .i64 (k : Int)] 3)) = .ok (.slice a5 (k + 1) c5) w5) := by have := hr; simp at this; exact this
              have N5 : Hid (NewInts w1.heap.size w5 (.slice a5 (k + 1) c5) ((List.range (k + 1)).map (fun (i : Nat) => (i : Int)))) := by
                have := h5
                simp at this
                show NewInts _ _ _ _
                rw [List.range_succ]
                simpa using this
              have B5 : Hid (Below w1.heap.size w1 w5) := BK.out.trans hb5
              clear hr h5 hb5
              go_wp2_with (at_builtin; refine wpList_append_ty rfl _ _ 24 24 rfl _ _ _ rfl rfl R5.out ?_)
              go_roundw
              case rel => exact ⟨k + 1, _, _, by omega, rfl, by go_num, N5.out, B5.out⟩
              case measure => simp [intOf]; omega
            · obtain rfl : k = n := by omega
              obtain ⟨a6, c6, e6, i6⟩ := NK.out.ints
              have I6 : Hid (Ints wr ad ((List.range k).map (fun (i : Nat) => (i : Int)))) := by show Ints _ _ _; rw [(Value.slice.inj e6).1]; exact i6
              clear e6 i6
              go_wp2_with fail
              refine (HV.out _ _ _ D rfl (by rw [HDD.out]; exact I6.out)).mono ?_
              rintro r w2 ⟨v', rfl, ha, hb⟩
              obtain ⟨a', c', b', f', rfl, _, _, _, _⟩ := ha.arrI
              have HA : Hid (Arr w1.heap.size w2.heap.size w2 (.agg #[.slice a' S.length c', .slice b' D.length f']) S D) := ha.mono BK.out.size (Nat.le_refl _)
              have HB2 : Hid (Below w1.heap.size w1 w2) := BK.out.trans (hb.mono BK.out.size)
              clear ha hb x0 x1 cx
              have Y2 : Hid (Box w2 (w.heap.size + 1) (.slice none 0 0) (.slice none 0 0) 26) := Y1.out.keep HB2.out
              have L1 : Hid (w.heap.size + 1 < w1.heap.size) := Y1.out.lt
              have y0 := Y2.out.c0
              have y1 := Y2.out.c1
              have f0 : w2.frozen? ⟨w.heap.size + 1, 0, none⟩ = false := free_at Y2.out 0
              have f1 : w2.frozen? ⟨w.heap.size + 1, 1, none⟩ = false := free_at Y2.out 1
              have HR : Hid (((w2.setCell ⟨w.heap.size + 1, 0, none⟩ (.slice a' S.length c')).setCell ⟨w.heap.size + 1, 1, none⟩ (.slice b' D.length f')).heap[w.heap.size + 1]? = some (.cells #[.slice a' S.length c', .slice b' D.length f'] 26 (0, 0))) := arr_stored Y2.out
              go_wp2
              refine bodyPost_ret (results_arr_tmp Try.results12 _ _ (w.heap.size + 1) _ _ rfl HR.out) rfl ?_
              refine ⟨_, rfl, ?_, below_setCell (below_setCell (bTrans HB1.out HB2.out) (by omega) _ _) (by omega) _ _⟩
              have L := L1.out
              exact ((HA.out.setCell L _ _).setCell L _ _).mono (by omega) (by simp only [size_setCell]; omega)
    · have n1 : ((d.length : Int) != 1) = true := by simp; omega
      have ER : iotaR s d = (3, [], []) := by unfold iotaR; rw [show iotaC s d = 3 from by unfold iotaC; rw [if_pos ho, if_pos hl]]; rfl
      rw [ER]
      clear ER ho hl
      go_enter Try.func12, Try.ntmps12
      go_wp2_with fail
      refine (arrOk_spec (H.out.keep (bAlloc (bAlloc (bAlloc (Below.refl _ _) _) _) _)) HD.out).mono ?_
      rintro r w1 ⟨rfl, hb⟩
      have HB1 : Hid (Below w.heap.size w w1) := bTrans (bAlloc (bAlloc (bAlloc (Below.refl _ _) _) _) _) hb
      have q1 := blocks3 w (.cells #[.slice a s.length c, .slice b d.length f] 26) (.cells #[.slice none 0 0, .slice none 0 0] 26) (.cells #[.slice none 0 0, .slice none 0 0] 26)
      have X1 : Hid (Box w1 w.heap.size (.slice a s.length c) (.slice b d.length f) 26) := Box.keep q1.1 hb
      have Y1 : Hid (Box w1 (w.heap.size + 1) (.slice none 0 0) (.slice none 0 0) 26) := Box.keep q1.2.1 hb
      have Z1 : Hid (Box w1 (w.heap.size + 1 + 1) (.slice none 0 0) (.slice none 0 0) 26) := Box.keep q1.2.2 hb
      clear hb q1
      rw [HO.out]
      have x0 := X1.out.c0
      have x1 := X1.out.c1
      have y0 := Y1.out.c0
      have y1 := Y1.out.c1
      have z0 := Z1.out.c0
      have z1 := Z1.out.c1
      have f0 : w1.frozen? ⟨w.heap.size + 1, 0, none⟩ = false := free_at Y1.out 0
      have f1 : w1.frozen? ⟨w.heap.size + 1, 1, none⟩ = false := free_at Y1.out 1
      have HR : Hid (((w1.setCell ⟨w.heap.size + 1, 0, none⟩ (.slice none 0 0)).setCell ⟨w.heap.size + 1, 1, none⟩ (.slice none 0 0)).heap[w.heap.size + 1]? = some (.cells #[.slice none 0 0, .slice none 0 0] 26 (0, 0))) := arr_stored Y1.out
      go_wp2
      refine bodyPost_ret (results_arr_tmp Try.results12 _ _ (w.heap.size + 1) _ _ rfl HR.out) rfl ?_
      exact ⟨_, rfl, arr_zero _ _ _, below_setCell (below_setCell HB1.out (by omega) _ _) (by omega) _ _⟩
  · have HO : Hid (arrOk s d = false) := by show _ = _; simpa using ho
    have ER : iotaR s d = (1, [], []) := by unfold iotaR; rw [show iotaC s d = 1 from by unfold iotaC; rw [if_neg ho]]; rfl
    rw [ER]
    clear ER ho
    go_enter Try.func12, Try.ntmps12
    go_wp2_with fail
    refine (arrOk_spec (H.out.keep (bAlloc (bAlloc (bAlloc (Below.refl _ _) _) _) _)) HD.out).mono ?_
    rintro r w1 ⟨rfl, hb⟩
    have HB1 : Hid (Below w.heap.size w w1) := bTrans (bAlloc (bAlloc (bAlloc (Below.refl _ _) _) _) _) hb
    have q1 := blocks3 w (.cells #[.slice a s.length c, .slice b d.length f] 26) (.cells #[.slice none 0 0, .slice none 0 0] 26) (.cells #[.slice none 0 0, .slice none 0 0] 26)
    have X1 : Hid (Box w1 w.heap.size (.slice a s.length c) (.slice b d.length f) 26) := Box.keep q1.1 hb
    have Y1 : Hid (Box w1 (w.heap.size + 1) (.slice none 0 0) (.slice none 0 0) 26) := Box.keep q1.2.1 hb
    have Z1 : Hid (Box w1 (w.heap.size + 1 + 1) (.slice none 0 0) (.slice none 0 0) 26) := Box.keep q1.2.2 hb
    clear hb q1
    rw [HO.out]
    have x0 := X1.out.c0
    have x1 := X1.out.c1
    have y0 := Y1.out.c0
    have y1 := Y1.out.c1
    have z0 := Z1.out.c0
    have z1 := Z1.out.c1
    have f0 : w1.frozen? ⟨w.heap.size + 1, 0, none⟩ = false := free_at Y1.out 0
    have f1 : w1.frozen? ⟨w.heap.size + 1, 1, none⟩ = false := free_at Y1.out 1
    have HR : Hid (((w1.setCell ⟨w.heap.size + 1, 0, none⟩ (.slice none 0 0)).setCell ⟨w.heap.size + 1, 1, none⟩ (.slice none 0 0)).heap[w.heap.size + 1]? = some (.cells #[.slice none 0 0, .slice none 0 0] 26 (0, 0))) := arr_stored Y1.out
    go_wp2
    refine bodyPost_ret (results_arr_tmp Try.results12 _ _ (w.heap.size + 1) _ _ rfl HR.out) rfl ?_
    exact ⟨_, rfl, arr_zero _ _ _, below_setCell (below_setCell HB1.out (by omega) _ _) (by omega) _ _⟩
end Go.Proofs.Ythjjjnapcbkhjaa
