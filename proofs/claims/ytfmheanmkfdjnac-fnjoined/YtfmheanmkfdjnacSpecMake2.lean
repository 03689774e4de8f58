/-
  Walks: the specification's Iota.
-/
import Derived.Test.YtfmheanmkfdjnacSpecMake1
import Derived.Test.YtfmheanmkfdjnacGrow
namespace Go.Proofs.Ytfmheanmkfdjnac
open Go.RowKit
set_option linter.unusedVariables false
set_option linter.unusedSimpArgs false
theorem blocks3 (w : World) (A B C : Obj) : (((w.alloc A).alloc B).alloc C).heap[w.heap.size]? = some A ∧ (((w.alloc A).alloc B).alloc C).heap[w.heap.size + 1]? = some B ∧ (((w.alloc A).alloc B).alloc C).heap[w.heap.size + 1 + 1]? = some C := by
  have e1 := heap_alloc_new w A
  have e2 := heap_alloc_new (w.alloc A) B
  have e3 := heap_alloc_new ((w.alloc A).alloc B) C
  simp only [World.size_alloc] at e2 e3
  refine ⟨?_, ?_, e3⟩
  · rw [heap_alloc_old _ _ (by simp only [World.size_alloc]; omega), heap_alloc_old _ _ (by simp only [World.size_alloc]; omega)]; exact e1
  · rw [heap_alloc_old _ _ (by simp only [World.size_alloc]; omega)]; exact e2
theorem one_list {d : List Int} (h : d.length = 1) : d = [d.getD 0 0] := by
  match d, h with
  | [x], _ => rfl
set_option maxRecDepth 20000 in
set_option maxHeartbeats 4000000 in
/-- Iota. -/
theorem iota_spec {s d : List Int} {w : World} {v : Value} (h : ArrI w v s d) (hd : d.length ≤ 1048576) :
    Calls Try.prog 32 #[v] w fun e w' => ∃ v', e = .returned (.tuple #[v', .int .i64 (iotaR s d).1]) ∧ Arr w.heap.size w'.heap.size w' v' (iotaR s d).2.1 (iotaR s d).2.2 ∧ Below w.heap.size w w' := by
  have H : Hid (ArrI w v s d) := h
  obtain ⟨a, c, b, f, rfl, h1, h2, _, _⟩ := h
  have H2 : Hid (Ints w b d) := h2
  have HD : Hid (d.length ≤ 1048576) := hd
  clear h1 h2 hd
  by_cases ho : arrOk s d = true
  · have HO : Hid (arrOk s d = true) := ho
    by_cases hl : d.length = 1
    · have n1 : ((d.length : Int) != 1) = false := by simp [hl]
      obtain ⟨b1, o1, rfl, hb1, c1⟩ := H2.out.at (k := 0) (by omega)
      rw [Nat.add_zero] at c1
      have hlt : (0 : Int) < (d.length : Int) := by omega
      have CC : Hid (∀ W, Below w.heap.size w W → W.cell? ⟨b1, o1, none⟩ = some (.int .i64 (d.getD 0 0))) := fun W h => (h.cell (p := ⟨b1, o1, none⟩) hb1).trans c1
      have EC : iotaC s d = if d.getD 0 0 < 0 then 2 else if 300 < d.getD 0 0 then 6 else 0 := by unfold iotaC; rw [if_pos ho, if_neg (by simpa using hl)]
      have EI : iotaR s d = mkR (if d.getD 0 0 < 0 then 2 else if 300 < d.getD 0 0 then 6 else 0) [d.getD 0 0] ((List.range (d.getD 0 0).toNat).map (fun (i : Nat) => (i : Int))) := by unfold iotaR; rw [EC]
      rw [EI]
      clear EI EC ho hl c1
      generalize d.getD 0 0 = x at *
      by_cases h1 : x < 0
      · rw [if_pos h1, mkR_bad (by decide)]
        go_enter Try.func32, Try.ntmps32
        go_wp2_with fail
        refine (arrOk_spec (H.out.keep (bAlloc (bAlloc (bAlloc (Below.refl _ _) _) _) _)) HD.out).mono ?_
        rintro r w1 ⟨rfl, hb⟩
        have HB1 : Hid (Below w.heap.size w w1) := bTrans (bAlloc (bAlloc (bAlloc (Below.refl _ _) _) _) _) hb
        have q1 := blocks3 w (.cells #[.slice a s.length c, .slice (some ⟨b1, o1, none⟩) d.length f] 26) (.cells #[.slice none 0 0, .slice none 0 0] 26) (.cells #[.slice none 0 0, .slice none 0 0] 26)
        have X1 : Hid (Box w1 w.heap.size (.slice a s.length c) (.slice (some ⟨b1, o1, none⟩) d.length f) 26) := Box.keep q1.1 hb
        have Y1 : Hid (Box w1 (w.heap.size + 1) (.slice none 0 0) (.slice none 0 0) 26) := Box.keep q1.2.1 hb
        have Z1 : Hid (Box w1 (w.heap.size + 1 + 1) (.slice none 0 0) (.slice none 0 0) 26) := Box.keep q1.2.2 hb
        clear hb q1
        rw [HO.out]
        have x0 := X1.out.c0
        have x1 := X1.out.c1
        have y0 := Y1.out.c0
        have y1 := Y1.out.c1
        have z0 := Z1.out.c0
        have z1 := Z1.out.c1
        have f0 : w1.frozen? ⟨w.heap.size + 1, 0, none⟩ = false := free_at Y1.out 0
        have f1 : w1.frozen? ⟨w.heap.size + 1, 1, none⟩ = false := free_at Y1.out 1
        have cx := CC.out _ HB1.out
        have HR : Hid (((w1.setCell ⟨w.heap.size + 1, 0, none⟩ (.slice none 0 0)).setCell ⟨w.heap.size + 1, 1, none⟩ (.slice none 0 0)).heap[w.heap.size + 1]? = some (.cells #[.slice none 0 0, .slice none 0 0] 26 (0, 0))) := arr_stored Y1.out
        go_wp2
        refine bodyPost_ret (results_arr_tmp Try.results32 _ _ (w.heap.size + 1) _ _ rfl HR.out) rfl ?_
        exact ⟨_, rfl, arr_zero _ _ _, below_setCell (below_setCell HB1.out (by omega) _ _) (by omega) _ _⟩
      · by_cases h2 : 300 < x
        · rw [if_neg h1, if_pos h2, mkR_bad (by decide)]
          go_enter Try.func32, Try.ntmps32
          go_wp2_with fail
          refine (arrOk_spec (H.out.keep (bAlloc (bAlloc (bAlloc (Below.refl _ _) _) _) _)) HD.out).mono ?_
          rintro r w1 ⟨rfl, hb⟩
          have HB1 : Hid (Below w.heap.size w w1) := bTrans (bAlloc (bAlloc (bAlloc (Below.refl _ _) _) _) _) hb
          have q1 := blocks3 w (.cells #[.slice a s.length c, .slice (some ⟨b1, o1, none⟩) d.length f] 26) (.cells #[.slice none 0 0, .slice none 0 0] 26) (.cells #[.slice none 0 0, .slice none 0 0] 26)
          have X1 : Hid (Box w1 w.heap.size (.slice a s.length c) (.slice (some ⟨b1, o1, none⟩) d.length f) 26) := Box.keep q1.1 hb
          have Y1 : Hid (Box w1 (w.heap.size + 1) (.slice none 0 0) (.slice none 0 0) 26) := Box.keep q1.2.1 hb
          have Z1 : Hid (Box w1 (w.heap.size + 1 + 1) (.slice none 0 0) (.slice none 0 0) 26) := Box.keep q1.2.2 hb
          clear hb q1
          rw [HO.out]
          have x0 := X1.out.c0
          have x1 := X1.out.c1
          have y0 := Y1.out.c0
          have y1 := Y1.out.c1
          have z0 := Z1.out.c0
          have z1 := Z1.out.c1
          have f0 : w1.frozen? ⟨w.heap.size + 1, 0, none⟩ = false := free_at Y1.out 0
          have f1 : w1.frozen? ⟨w.heap.size + 1, 1, none⟩ = false := free_at Y1.out 1
          have cx := CC.out _ HB1.out
          have hge : 0 ≤ x := by omega
          have HR : Hid (((w1.setCell ⟨w.heap.size + 1, 0, none⟩ (.slice none 0 0)).setCell ⟨w.heap.size + 1, 1, none⟩ (.slice none 0 0)).heap[w.heap.size + 1]? = some (.cells #[.slice none 0 0, .slice none 0 0] 26 (0, 0))) := arr_stored Y1.out
          go_wp2
          refine bodyPost_ret (results_arr_tmp Try.results32 _ _ (w.heap.size + 1) _ _ rfl HR.out) rfl ?_
          exact ⟨_, rfl, arr_zero _ _ _, below_setCell (below_setCell HB1.out (by omega) _ _) (by omega) _ _⟩
        · rw [if_neg h1, if_neg h2, mkR_good]
          obtain ⟨n, rfl⟩ : ∃ n : Nat, x = (n : Int) := ⟨x.toNat, by omega⟩
          have hn : n ≤ 300 := by omega
          clear h1 h2
          rw [Int.toNat_natCast]
          have HV : Hid (∀ W a' c' (l : List Int), l = (List.range n).map (fun (i : Nat) => (i : Int)) → Ints W a' l → Calls Try.prog 68 #[.slice a' n c'] W fun e w' => ∃ v, e = .returned v ∧ Arr W.heap.size w'.heap.size w' v [(n : Int)] ((List.range n).map (fun (i : Nat) => (i : Int))) ∧ Below W.heap.size W w') := by
            intro W a' c' l hl h
            have hz : l.length = n := by rw [hl]; simp
            have := vector_spec c' h (by omega)
            rw [hz, hl] at this
            exact this
          obtain ⟨D, hD⟩ : ∃ D, D = (List.range n).map (fun (i : Nat) => (i : Int)) := ⟨_, rfl⟩
          obtain ⟨S, hS⟩ : ∃ S, S = [(n : Int)] := ⟨_, rfl⟩
          have HDD : Hid (D = (List.range n).map (fun (i : Nat) => (i : Int))) := hD
          rw [← hD, ← hS] at HV
          rw [← hD, ← hS]
          clear hD hS
          go_enter Try.func32, Try.ntmps32
          go_wp2_with fail
          refine (arrOk_spec (H.out.keep (bAlloc (bAlloc (bAlloc (Below.refl _ _) _) _) _)) HD.out).mono ?_
          rintro r w1 ⟨rfl, hb⟩
          have HB1 : Hid (Below w.heap.size w w1) := bTrans (bAlloc (bAlloc (bAlloc (Below.refl _ _) _) _) _) hb
          have q1 := blocks3 w (.cells #[.slice a s.length c, .slice (some ⟨b1, o1, none⟩) d.length f] 26) (.cells #[.slice none 0 0, .slice none 0 0] 26) (.cells #[.slice none 0 0, .slice none 0 0] 26)
          have X1 : Hid (Box w1 w.heap.size (.slice a s.length c) (.slice (some ⟨b1, o1, none⟩) d.length f) 26) := Box.keep q1.1 hb
          have Y1 : Hid (Box w1 (w.heap.size + 1) (.slice none 0 0) (.slice none 0 0) 26) := Box.keep q1.2.1 hb
          have Z1 : Hid (Box w1 (w.heap.size + 1 + 1) (.slice none 0 0) (.slice none 0 0) 26) := Box.keep q1.2.2 hb
          clear hb q1
          rw [HO.out]
          have x0 := X1.out.c0
          have x1 := X1.out.c1
          have y0 := Y1.out.c0
          have y1 := Y1.out.c1
          have z0 := Z1.out.c0
          have z1 := Z1.out.c1
          have f0 : w1.frozen? ⟨w.heap.size + 1, 0, none⟩ = false := free_at Y1.out 0
          have f1 : w1.frozen? ⟨w.heap.size + 1, 1, none⟩ = false := free_at Y1.out 1
          have cx := CC.out _ HB1.out
          go_wp2
          generalize hW : w1.alloc (.cells #[] 3) = W0
          have N0 : Hid (NewInts w1.heap.size W0 (.slice (some ⟨w1.heap.size, 0, none⟩) 0 0) []) := by rw [← hW]; exact newInts_alloc w1 [] (Nat.le_refl _) (by simp)
          have B0 : Hid (Below w1.heap.size w1 W0) := by rw [← hW]; exact bAlloc (Below.refl _ _) _
          clear hW
          go_loopw [5, 6] (fun u i w' => ∃ (k : Nat) (ad : Option Addr) (cd : Nat), k ≤ n ∧ u = .slice ad k cd ∧ i = .int .i64 (k : Int) ∧ NewInts w1.heap.size w' (.slice ad k cd) ((List.range k).map (fun (i : Nat) => (i : Int))) ∧ Below w1.heap.size w1 w') (fun _ i _ => n - (intOf i).toNat)
          case atStart => exact ⟨0, _, _, by omega, rfl, rfl, N0.out, B0.out⟩
          case round =>
            obtain ⟨k, ad, cd, hk, rfl, rfl, hN, hB⟩ := hrel
            have NK : Hid (NewInts w1.heap.size wr (.slice ad k cd) ((List.range k).map (fun (i : Nat) => (i : Int)))) := hN
            have BK : Hid (Below w1.heap.size w1 wr) := hB
            clear hN hB x0 x1 y0 y1 z0 z1 f0 f1 cx
            have x0 := (X1.out.keep BK.out).c0
            have x1 := (X1.out.keep BK.out).c1
            have cx := CC.out _ (bTrans HB1.out BK.out)
            by_cases hlt2 : (k : Int) < (n : Int)
            · obtain ⟨a5, c5, w5, hr, h5, hb5⟩ := grow1 (k : Int) NK.out BK.out.size (by simp; omega)
              have R5 : Hid ((Builtin.append_ #[24, 24] 24 #[.slice ad k cd, .slice (some ⟨wr.heap.size, 0, none⟩) 1 1]).run Try.prog (wr.alloc (.cells #[.int .i64 (k : Int)] 3)) = .ok (.slice a5 (k + 1) c5) w5) := by have := hr; simp at this; exact this
              have N5 : Hid (NewInts w1.heap.size w5 (.slice a5 (k + 1) c5) ((List.range (k + 1)).map (fun (i : Nat) => (i : Int)))) := by
                have := h5
                simp at this
                show NewInts _ _ _ _
                rw [List.range_succ]
                simpa using this
              have B5 : Hid (Below w1.heap.size w1 w5) := BK.out.trans hb5
              clear hr h5 hb5
              go_wp2_with (at_builtin; refine wpList_append_ty rfl _ _ 24 24 rfl _ _ _ rfl rfl R5.out ?_)
              go_roundw
              case rel => exact ⟨k + 1, _, _, by omega, rfl, by go_num, N5.out, B5.out⟩
              case measure => simp [intOf]; omega
            · obtain rfl : k = n := by omega
              obtain ⟨a6, c6, e6, i6⟩ := NK.out.ints
              have I6 : Hid (Ints wr ad ((List.range k).map (fun (i : Nat) => (i : Int)))) := by show Ints _ _ _; rw [(Value.slice.inj e6).1]; exact i6
              clear e6 i6
              go_wp2_with fail
              refine (HV.out _ _ _ D rfl (by rw [HDD.out]; exact I6.out)).mono ?_
              rintro r w2 ⟨v', rfl, ha, hb⟩
              obtain ⟨a', c', b', f', rfl, _, _, _, _⟩ := ha.arrI
              have HA : Hid (Arr w1.heap.size w2.heap.size w2 (.agg #[.slice a' S.length c', .slice b' D.length f']) S D) := ha.mono BK.out.size (Nat.le_refl _)
              have HB2 : Hid (Below w1.heap.size w1 w2) := BK.out.trans (hb.mono BK.out.size)
              clear ha hb x0 x1 cx
              have Y2 : Hid (Box w2 (w.heap.size + 1) (.slice none 0 0) (.slice none 0 0) 26) := Y1.out.keep HB2.out
              have L1 : Hid (w.heap.size + 1 < w1.heap.size) := Y1.out.lt
              have y0 := Y2.out.c0
              have y1 := Y2.out.c1
              have f0 : w2.frozen? ⟨w.heap.size + 1, 0, none⟩ = false := free_at Y2.out 0
              have f1 : w2.frozen? ⟨w.heap.size + 1, 1, none⟩ = false := free_at Y2.out 1
              have HR : Hid (((w2.setCell ⟨w.heap.size + 1, 0, none⟩ (.slice a' S.length c')).setCell ⟨w.heap.size + 1, 1, none⟩ (.slice b' D.length f')).heap[w.heap.size + 1]? = some (.cells #[.slice a' S.length c', .slice b' D.length f'] 26 (0, 0))) := arr_stored Y2.out
              go_wp2
              refine bodyPost_ret (results_arr_tmp Try.results32 _ _ (w.heap.size + 1) _ _ rfl HR.out) rfl ?_
              refine ⟨_, rfl, ?_, below_setCell (below_setCell (bTrans HB1.out HB2.out) (by omega) _ _) (by omega) _ _⟩
              have L := L1.out
              exact ((HA.out.setCell L _ _).setCell L _ _).mono (by omega) (by simp only [size_setCell]; omega)
    · have n1 : ((d.length : Int) != 1) = true := by simp; omega
      have ER : iotaR s d = (3, [], []) := by unfold iotaR; rw [show iotaC s d = 3 from by unfold iotaC; rw [if_pos ho, if_pos hl]]; rfl
      rw [ER]
      clear ER ho hl
      go_enter Try.func32, Try.ntmps32
      go_wp2_with fail
      refine (arrOk_spec (H.out.keep (bAlloc (bAlloc (bAlloc (Below.refl _ _) _) _) _)) HD.out).mono ?_
      rintro r w1 ⟨rfl, hb⟩
      have HB1 : Hid (Below w.heap.size w w1) := bTrans (bAlloc (bAlloc (bAlloc (Below.refl _ _) _) _) _) hb
      have q1 := blocks3 w (.cells #[.slice a s.length c, .slice b d.length f] 26) (.cells #[.slice none 0 0, .slice none 0 0] 26) (.cells #[.slice none 0 0, .slice none 0 0] 26)
      have X1 : Hid (Box w1 w.heap.size (.slice a s.length c) (.slice b d.length f) 26) := Box.keep q1.1 hb
      have Y1 : Hid (Box w1 (w.heap.size + 1) (.slice none 0 0) (.slice none 0 0) 26) := Box.keep q1.2.1 hb
      have Z1 : Hid (Box w1 (w.heap.size + 1 + 1) (.slice none 0 0) (.slice none 0 0) 26) := Box.keep q1.2.2 hb
      clear hb q1
      rw [HO.out]
      have x0 := X1.out.c0
      have x1 := X1.out.c1
      have y0 := Y1.out.c0
      have y1 := Y1.out.c1
      have z0 := Z1.out.c0
      have z1 := Z1.out.c1
      have f0 : w1.frozen? ⟨w.heap.size + 1, 0, none⟩ = false := free_at Y1.out 0
      have f1 : w1.frozen? ⟨w.heap.size + 1, 1, none⟩ = false := free_at Y1.out 1
      have HR : Hid (((w1.setCell ⟨w.heap.size + 1, 0, none⟩ (.slice none 0 0)).setCell ⟨w.heap.size + 1, 1, none⟩ (.slice none 0 0)).heap[w.heap.size + 1]? = some (.cells #[.slice none 0 0, .slice none 0 0] 26 (0, 0))) := arr_stored Y1.out
      go_wp2
      refine bodyPost_ret (results_arr_tmp Try.results32 _ _ (w.heap.size + 1) _ _ rfl HR.out) rfl ?_
      exact ⟨_, rfl, arr_zero _ _ _, below_setCell (below_setCell HB1.out (by omega) _ _) (by omega) _ _⟩
  · have HO : Hid (arrOk s d = false) := by show _ = _; simpa using ho
    have ER : iotaR s d = (1, [], []) := by unfold iotaR; rw [show iotaC s d = 1 from by unfold iotaC; rw [if_neg ho]]; rfl
    rw [ER]
    clear ER ho
    go_enter Try.func32, Try.ntmps32
    go_wp2_with fail
    refine (arrOk_spec (H.out.keep (bAlloc (bAlloc (bAlloc (Below.refl _ _) _) _) _)) HD.out).mono ?_
    rintro r w1 ⟨rfl, hb⟩
    have HB1 : Hid (Below w.heap.size w w1) := bTrans (bAlloc (bAlloc (bAlloc (Below.refl _ _) _) _) _) hb
    have q1 := blocks3 w (.cells #[.slice a s.length c, .slice b d.length f] 26) (.cells #[.slice none 0 0, .slice none 0 0] 26) (.cells #[.slice none 0 0, .slice none 0 0] 26)
    have X1 : Hid (Box w1 w.heap.size (.slice a s.length c) (.slice b d.length f) 26) := Box.keep q1.1 hb
    have Y1 : Hid (Box w1 (w.heap.size + 1) (.slice none 0 0) (.slice none 0 0) 26) := Box.keep q1.2.1 hb
    have Z1 : Hid (Box w1 (w.heap.size + 1 + 1) (.slice none 0 0) (.slice none 0 0) 26) := Box.keep q1.2.2 hb
    clear hb q1
    rw [HO.out]
    have x0 := X1.out.c0
    have x1 := X1.out.c1
    have y0 := Y1.out.c0
    have y1 := Y1.out.c1
    have z0 := Z1.out.c0
    have z1 := Z1.out.c1
    have f0 : w1.frozen? ⟨w.heap.size + 1, 0, none⟩ = false := free_at Y1.out 0
    have f1 : w1.frozen? ⟨w.heap.size + 1, 1, none⟩ = false := free_at Y1.out 1
    have HR : Hid (((w1.setCell ⟨w.heap.size + 1, 0, none⟩ (.slice none 0 0)).setCell ⟨w.heap.size + 1, 1, none⟩ (.slice none 0 0)).heap[w.heap.size + 1]? = some (.cells #[.slice none 0 0, .slice none 0 0] 26 (0, 0))) := arr_stored Y1.out
    go_wp2
    refine bodyPost_ret (results_arr_tmp Try.results32 _ _ (w.heap.size + 1) _ _ rfl HR.out) rfl ?_
    exact ⟨_, rfl, arr_zero _ _ _, below_setCell (below_setCell HB1.out (by omega) _ _) (by omega) _ _⟩
end Go.Proofs.Ytfmheanmkfdjnac
namespace Go.Proofs.Ytfmheanmkfdjnac
open Go.RowKit
set_option linter.unusedVariables false
set_option linter.unusedSimpArgs false
theorem blocks4 (w : World) (A B C D : Obj) : ((((w.alloc A).alloc B).alloc C).alloc D).heap[w.heap.size]? = some A ∧ ((((w.alloc A).alloc B).alloc C).alloc D).heap[w.heap.size + 1]? = some B ∧ ((((w.alloc A).alloc B).alloc C).alloc D).heap[w.heap.size + 1 + 1]? = some C ∧ ((((w.alloc A).alloc B).alloc C).alloc D).heap[w.heap.size + 1 + 1 + 1]? = some D := by
  have q := blocks3 w A B C
  have e4 := heap_alloc_new (((w.alloc A).alloc B).alloc C) D
  simp only [World.size_alloc] at e4
  refine ⟨?_, ?_, ?_, e4⟩
  · rw [heap_alloc_old _ _ (by simp only [World.size_alloc]; omega)]; exact q.1
  · rw [heap_alloc_old _ _ (by simp only [World.size_alloc]; omega)]; exact q.2.1
  · rw [heap_alloc_old _ _ (by simp only [World.size_alloc]; omega)]; exact q.2.2
theorem againD_succ (e : List Int) (k : Nat) : againD e k ++ [if e = [] then 0 else e.getD (k % e.length) 0] = againD e (k + 1) := by
  unfold againD; rw [List.range_succ]; simp
theorem any_take {d : List Int} {k : Nat} (h : (d.take k).any (fun x => decide (x < 0)) = false) (hk : k < d.length) (hx : ¬ d.getD k 0 < 0) : (d.take (k + 1)).any (fun x => decide (x < 0)) = false := by
  rw [take_snoc hk, List.any_append, h]
  simpa using hx
set_option maxRecDepth 20000 in
set_option maxHeartbeats 4000000 in
/-- Reshape. -/
theorem reshape_spec {s d t e : List Int} {w : World} {v u : Value} (h : ArrI w v s d) (k : ArrI w u t e) (hd : d.length ≤ 1048576) (he : e.length ≤ 1048576) :
    Calls Try.prog 25 #[v, u] w fun r w' => ∃ v', r = .returned (.tuple #[v', .int .i64 (reshapeR s d t e).1]) ∧ Arr w.heap.size w'.heap.size w' v' (reshapeR s d t e).2.1 (reshapeR s d t e).2.2 ∧ Below w.heap.size w w' := by
  have H : Hid (ArrI w v s d) := h
  have K : Hid (ArrI w u t e) := k
  obtain ⟨a, c, b, f, rfl, h1, h2, _, _⟩ := h
  obtain ⟨a', c', b', f', rfl, k1, k2, _, _⟩ := k
  have H2 : Hid (Ints w b d) := h2
  have K2 : Hid (Ints w b' e) := k2
  have HD : Hid (d.length ≤ 1048576) := hd
  have HE : Hid (e.length ≤ 1048576) := he
  clear h1 h2 k1 k2 hd he
  by_cases ho : arrOk s d = true
  · have HO : Hid (arrOk s d = true) := ho
    by_cases ho' : arrOk t e = true
    · have HO' : Hid (arrOk t e = true) := ho'
      have EC : Hid (reshapeC s d t e = if 1 < s.length then 4 else if d.any (fun x => decide (x < 0)) = true then 2 else if sizeV d < 0 then 6 else 0) := by show _ = _; unfold reshapeC; rw [if_pos ⟨ho, ho'⟩]
      have LD : Hid (d.length ≤ 300) := by have := arrOk_len ho; show _ ≤ _; omega
      have LE : Hid (e.length ≤ 300) := by have := arrOk_len ho'; show _ ≤ _; omega
      clear ho ho'
      by_cases h1 : 1 < s.length
      · have ER : reshapeR s d t e = (4, [], []) := by unfold reshapeR; rw [EC.out, if_pos h1]; exact mkR_bad (by decide) _ _
        have n1 : decide (1 < (s.length : Int)) = true := by simp; omega
        rw [ER]
        clear ER h1
        go_enter Try.func25, Try.ntmps25
        go_wp2_with fail
        refine (arrOk_spec (H.out.keep (bAlloc (bAlloc (bAlloc (bAlloc (Below.refl _ _) _) _) _) _)) HD.out).mono ?_
        rintro r w1 ⟨rfl, hb⟩
        have HB1 : Hid (Below w.heap.size w w1) := bTrans (bAlloc (bAlloc (bAlloc (bAlloc (Below.refl _ _) _) _) _) _) hb
        have q1 := blocks4 w (.cells #[.slice a s.length c, .slice b d.length f] 26) (.cells #[.slice a' t.length c', .slice b' e.length f'] 26) (.cells #[.slice none 0 0, .slice none 0 0] 26) (.cells #[.slice none 0 0, .slice none 0 0] 26)
        have X1 : Hid (Box w1 w.heap.size (.slice a s.length c) (.slice b d.length f) 26) := Box.keep q1.1 hb
        have Y1 : Hid (Box w1 (w.heap.size + 1) (.slice a' t.length c') (.slice b' e.length f') 26) := Box.keep q1.2.1 hb
        have R1 : Hid (Box w1 (w.heap.size + 1 + 1) (.slice none 0 0) (.slice none 0 0) 26) := Box.keep q1.2.2.1 hb
        have Z1 : Hid (Box w1 (w.heap.size + 1 + 1 + 1) (.slice none 0 0) (.slice none 0 0) 26) := Box.keep q1.2.2.2 hb
        clear hb q1
        rw [HO.out]
        have x0 := X1.out.c0
        have x1 := X1.out.c1
        have y0 := Y1.out.c0
        have y1 := Y1.out.c1
        have r0 := R1.out.c0
        have r1 := R1.out.c1
        have f0 : w1.frozen? ⟨w.heap.size + 1 + 1, 0, none⟩ = false := free_at R1.out 0
        have f1 : w1.frozen? ⟨w.heap.size + 1 + 1, 1, none⟩ = false := free_at R1.out 1
        have z0 := Z1.out.c0
        have z1 := Z1.out.c1
        go_wp2_with fail
        refine (arrOk_spec (K.out.keep HB1.out) HE.out).mono ?_
        rintro r w2 ⟨rfl, hb⟩
        have HB2 : Hid (Below w.heap.size w w2) := bTrans HB1.out hb
        have X2 : Hid (Box w2 w.heap.size (.slice a s.length c) (.slice b d.length f) 26) := X1.out.keep hb
        have Y2 : Hid (Box w2 (w.heap.size + 1) (.slice a' t.length c') (.slice b' e.length f') 26) := Y1.out.keep hb
        have R2 : Hid (Box w2 (w.heap.size + 1 + 1) (.slice none 0 0) (.slice none 0 0) 26) := R1.out.keep hb
        have Z2 : Hid (Box w2 (w.heap.size + 1 + 1 + 1) (.slice none 0 0) (.slice none 0 0) 26) := Z1.out.keep hb
        rw [HO'.out]
        clear hb
        clear x0 x1 y0 y1 r0 r1 z0 z1 f0 f1
        clear X1 Y1 R1 Z1 HB1
        have x0 := X2.out.c0
        have x1 := X2.out.c1
        have y0 := Y2.out.c0
        have y1 := Y2.out.c1
        have r0 := R2.out.c0
        have r1 := R2.out.c1
        have f0 : w2.frozen? ⟨w.heap.size + 1 + 1, 0, none⟩ = false := free_at R2.out 0
        have f1 : w2.frozen? ⟨w.heap.size + 1 + 1, 1, none⟩ = false := free_at R2.out 1
        have z0 := Z2.out.c0
        have z1 := Z2.out.c1
        have HR : Hid (((w2.setCell ⟨w.heap.size + 1 + 1, 0, none⟩ (.slice none 0 0)).setCell ⟨w.heap.size + 1 + 1, 1, none⟩ (.slice none 0 0)).heap[w.heap.size + 1 + 1]? = some (.cells #[.slice none 0 0, .slice none 0 0] 26 (0, 0))) := arr_stored R2.out
        go_wp2
        refine bodyPost_ret (results_arr_tmp Try.results25 _ _ (w.heap.size + 1 + 1) _ _ rfl HR.out) rfl ?_
        exact ⟨_, rfl, arr_zero _ _ _, below_setCell (below_setCell HB2.out (by omega) _ _) (by omega) _ _⟩
      · have n1 : decide (1 < (s.length : Int)) = false := by simp; omega
        have EC1 : Hid (reshapeC s d t e = if d.any (fun x => decide (x < 0)) = true then 2 else if sizeV d < 0 then 6 else 0) := by show _ = _; rw [EC.out, if_neg h1]
        clear EC h1
        obtain ⟨R, hR⟩ : ∃ R, R = reshapeR s d t e := ⟨_, rfl⟩
        have RR : Hid (R = reshapeR s d t e) := hR
        rw [← hR]
        clear hR
        go_enter Try.func25, Try.ntmps25
        go_wp2_with fail
        refine (arrOk_spec (H.out.keep (bAlloc (bAlloc (bAlloc (bAlloc (Below.refl _ _) _) _) _) _)) HD.out).mono ?_
        rintro r w1 ⟨rfl, hb⟩
        have HB1 : Hid (Below w.heap.size w w1) := bTrans (bAlloc (bAlloc (bAlloc (bAlloc (Below.refl _ _) _) _) _) _) hb
        have q1 := blocks4 w (.cells #[.slice a s.length c, .slice b d.length f] 26) (.cells #[.slice a' t.length c', .slice b' e.length f'] 26) (.cells #[.slice none 0 0, .slice none 0 0] 26) (.cells #[.slice none 0 0, .slice none 0 0] 26)
        have X1 : Hid (Box w1 w.heap.size (.slice a s.length c) (.slice b d.length f) 26) := Box.keep q1.1 hb
        have Y1 : Hid (Box w1 (w.heap.size + 1) (.slice a' t.length c') (.slice b' e.length f') 26) := Box.keep q1.2.1 hb
        have R1 : Hid (Box w1 (w.heap.size + 1 + 1) (.slice none 0 0) (.slice none 0 0) 26) := Box.keep q1.2.2.1 hb
        have Z1 : Hid (Box w1 (w.heap.size + 1 + 1 + 1) (.slice none 0 0) (.slice none 0 0) 26) := Box.keep q1.2.2.2 hb
        clear hb q1
        rw [HO.out]
        have x0 := X1.out.c0
        have x1 := X1.out.c1
        have y0 := Y1.out.c0
        have y1 := Y1.out.c1
        have r0 := R1.out.c0
        have r1 := R1.out.c1
        have f0 : w1.frozen? ⟨w.heap.size + 1 + 1, 0, none⟩ = false := free_at R1.out 0
        have f1 : w1.frozen? ⟨w.heap.size + 1 + 1, 1, none⟩ = false := free_at R1.out 1
        have z0 := Z1.out.c0
        have z1 := Z1.out.c1
        go_wp2_with fail
        refine (arrOk_spec (K.out.keep HB1.out) HE.out).mono ?_
        rintro r w2 ⟨rfl, hb⟩
        have HB2 : Hid (Below w.heap.size w w2) := bTrans HB1.out hb
        have X2 : Hid (Box w2 w.heap.size (.slice a s.length c) (.slice b d.length f) 26) := X1.out.keep hb
        have Y2 : Hid (Box w2 (w.heap.size + 1) (.slice a' t.length c') (.slice b' e.length f') 26) := Y1.out.keep hb
        have R2 : Hid (Box w2 (w.heap.size + 1 + 1) (.slice none 0 0) (.slice none 0 0) 26) := R1.out.keep hb
        have Z2 : Hid (Box w2 (w.heap.size + 1 + 1 + 1) (.slice none 0 0) (.slice none 0 0) 26) := Z1.out.keep hb
        rw [HO'.out]
        clear hb
        clear x0 x1 y0 y1 r0 r1 z0 z1 f0 f1
        clear X1 Y1 R1 Z1 HB1
        have x0 := X2.out.c0
        have x1 := X2.out.c1
        have y0 := Y2.out.c0
        have y1 := Y2.out.c1
        have r0 := R2.out.c0
        have r1 := R2.out.c1
        have f0 : w2.frozen? ⟨w.heap.size + 1 + 1, 0, none⟩ = false := free_at R2.out 0
        have f1 : w2.frozen? ⟨w.heap.size + 1 + 1, 1, none⟩ = false := free_at R2.out 1
        have z0 := Z2.out.c0
        have z1 := Z2.out.c1
        go_wp2
        go_loopw [7] (fun i w' => ∃ k : Nat, k ≤ d.length ∧ i = .int .i64 (k : Int) ∧ (d.take k).any (fun x => decide (x < 0)) = false ∧ w' = w2) (fun i _ => d.length - (intOf i).toNat)
        case atStart => exact ⟨0, by omega, rfl, by simp, rfl⟩
        case round =>
          obtain ⟨k, hk, rfl, ht, hw⟩ := hrel
          have hw' := hw.symm
          subst hw'
          have HT : Hid ((d.take k).any (fun x => decide (x < 0)) = false) := ht
          clear ht
          have ld := LD.out
          by_cases hlt : (k : Int) < (d.length : Int)
          · have L : k < d.length := by omega
            obtain ⟨b1, o1, rfl, hb1, c1⟩ := (H2.out.keep HB2.out).at L
            have T1 : Hid (¬ d.getD k 0 < 0 → (d.take (k + 1)).any (fun x => decide (x < 0)) = false) := any_take HT.out L
            have T2 : Hid (d.getD k 0 < 0 → d.any (fun x => decide (x < 0)) = true) := fun h => by rw [List.any_eq_true]; exact ⟨d.getD k 0, by simp [L], by simpa using h⟩
            generalize d.getD k 0 = x at *
            by_cases hx : x < 0
            · have ER : Hid (R = (2, [], [])) := by show _ = _; rw [RR.out]; unfold reshapeR; rw [EC1.out, if_pos (T2.out hx)]; exact mkR_bad (by decide) _ _
              have HR : Hid (((w2.setCell ⟨w.heap.size + 1 + 1, 0, none⟩ (.slice none 0 0)).setCell ⟨w.heap.size + 1 + 1, 1, none⟩ (.slice none 0 0)).heap[w.heap.size + 1 + 1]? = some (.cells #[.slice none 0 0, .slice none 0 0] 26 (0, 0))) := arr_stored R2.out
              go_wp2
              refine bodyPost_ret (results_arr_tmp Try.results25 _ _ (w.heap.size + 1 + 1) _ _ rfl HR.out) rfl ?_
              exact ⟨_, by rw [ER.out]; rfl, by rw [ER.out]; exact arr_zero _ _ _, below_setCell (below_setCell HB2.out (by omega) _ _) (by omega) _ _⟩
            · have T1' := T1.out hx
              have T3 : Hid ((d.take (k + 1)).any (fun x => decide (x < 0)) = false) := T1'
              clear T1'
              go_wp2
              go_roundw
              case rel => exact ⟨k + 1, by omega, by go_num, T3.out, by first | trivial | rfl⟩
              case measure => simp [intOf]; omega
          · have HA : Hid (d.any (fun x => decide (x < 0)) = false) := by
              have := HT.out
              rw [List.take_of_length_le (by omega)] at this
              exact this
            have EC2 : Hid (reshapeC s d t e = if sizeV d < 0 then 6 else 0) := by show _ = _; rw [EC1.out, if_neg (by rw [HA.out]; decide)]
            by_cases hz : sizeV d < 0
            · have ER : Hid (R = (6, [], [])) := by show _ = _; rw [RR.out]; unfold reshapeR; rw [EC2.out, if_pos hz]; exact mkR_bad (by decide) _ _
              have HSZ : Hid (Calls Try.prog 48 #[.slice b d.length f] w2 fun e w' => e = .returned (.int .i64 (sizeV d)) ∧ w' = w2) := size_spec f (H2.out.keep HB2.out)
              generalize sizeV d = n at *
              go_wp2_with fail
              refine HSZ.out.mono ?_
              rintro r w' ⟨rfl, hw⟩
              subst w'
              have HR : Hid (((w2.setCell ⟨w.heap.size + 1 + 1, 0, none⟩ (.slice none 0 0)).setCell ⟨w.heap.size + 1 + 1, 1, none⟩ (.slice none 0 0)).heap[w.heap.size + 1 + 1]? = some (.cells #[.slice none 0 0, .slice none 0 0] 26 (0, 0))) := arr_stored R2.out
              go_wp2
              refine bodyPost_ret (results_arr_tmp Try.results25 _ _ (w.heap.size + 1 + 1) _ _ rfl HR.out) rfl ?_
              exact ⟨_, by rw [ER.out]; rfl, by rw [ER.out]; exact arr_zero _ _ _, below_setCell (below_setCell HB2.out (by omega) _ _) (by omega) _ _⟩
            · obtain ⟨n, hn⟩ : ∃ n : Nat, sizeV d = (n : Int) := ⟨(sizeV d).toNat, by omega⟩
              have ER : Hid (R = (0, d, againD e n)) := by show _ = _; rw [RR.out]; unfold reshapeR; rw [EC2.out, if_neg hz, hn]; exact mkR_good _ _
              have hn3 : n ≤ 300 := by have := (sizeV_bd d).2; omega
              have HSZ : Hid (Calls Try.prog 48 #[.slice b d.length f] w2 fun e w' => e = .returned (.int .i64 (n : Int)) ∧ w' = w2) := by
                have := size_spec f (H2.out.keep HB2.out)
                rw [hn] at this
                exact this
              obtain ⟨v5, w5, hrun5, hp5, hb5⟩ := append_new ((H2.out.keep HB2.out).alloc (.cells #[] 3)) HD.out w2.heap.size 0 f
              obtain ⟨a5, c5, rfl, _⟩ := hp5.ints
              have R5 : Hid (∀ (ty : TypeId), (Builtin.append_ #[24, 24] ty #[.slice (some ⟨w2.heap.size, 0, none⟩) 0 0, .slice b d.length f]).run Try.prog (w2.alloc (.cells #[] 3)) = .ok (.slice a5 d.length c5) w5) := hrun5
              have P5 : Hid (Piece w2.heap.size w5.heap.size w5 (.slice a5 d.length c5) d) := hp5.mono (by simp) (Nat.le_refl _)
              have B5 : Hid (Below w2.heap.size w2 w5) := bTrans (bAlloc (Below.refl _ _) _) hb5
              have xa := (X2.out.keep (bAlloc (Below.refl _ _) (.cells #[] 3))).c1
              clear hrun5 hp5 hb5 hz hn HT
              go_wp2_with (first | (go_at_call 48; refine HSZ.out.mono ?_; rintro r w' ⟨rfl, hw⟩; subst w') | (at_builtin; refine wpList_append_run rfl _ _ 24 24 rfl _ _ _ rfl rfl R5.out ?_))
              generalize hW : w5.alloc (.cells #[.slice a5 d.length c5, .slice none 0 0] 26) = W6
              have O6 : Hid (OutAt w5.heap.size w5 W6 (.slice a5 d.length c5) none 0 0 (againD e 0)) := by rw [← hW]; exact outAt_new
              have Y5 : Hid (Box w5 (w.heap.size + 1) (.slice a' t.length c') (.slice b' e.length f') 26) := Y2.out.keep B5.out
              have K5 : Hid (Ints w5 b' e) := (K2.out.keep HB2.out).keep B5.out
              clear hW x0 x1 y0 y1 r0 r1 z0 z1 f0 f1 xa
              go_loopw [10] (fun i w' => ∃ (k : Nat) (ad : Option Addr) (cd : Nat), k ≤ n ∧ i = .int .i64 (k : Int) ∧ OutAt w5.heap.size w5 w' (.slice a5 d.length c5) ad cd k (againD e k)) (fun i _ => n - (intOf i).toNat)
              case atStart => exact ⟨0, _, _, by omega, rfl, O6.out⟩
              case round =>
                obtain ⟨k, ad, cd, hk, rfl, hO⟩ := hrel
                have OK : Hid (OutAt w5.heap.size w5 wr (.slice a5 d.length c5) ad cd k (againD e k)) := hO
                clear hO
                have YR : Hid (Box wr (w.heap.size + 1) (.slice a' t.length c') (.slice b' e.length f') 26) := Y5.out.keep OK.out.below
                have y0 := YR.out.c0
                have y1 := YR.out.c1
                obtain ⟨g0, g1, g2, g3⟩ := OK.out.cells
                by_cases hlt : (k : Int) < (n : Int)
                · by_cases he : e = []
                  · have n2 : ¬ (0 : Int) < (e.length : Int) := by rw [he]; decide
                    obtain ⟨x, hx0⟩ : ∃ x : Int, x = 0 := ⟨_, rfl⟩
                    have hx : againD e k ++ [x] = againD e (k + 1) := by rw [← againD_succ, if_pos he, hx0]
                    clear he
                    obtain ⟨a7, c7, w7, hr7, hb7, ho7⟩ := OK.out.grow1 (by omega) x
                    have R7 : Hid ((Builtin.append_ #[24, 24] 24 #[.slice ad k cd, .slice (some ⟨wr.heap.size, 0, none⟩) 1 1]).run Try.prog (wr.alloc (.cells #[.int .i64 x] 3)) = .ok (.slice a7 (k + 1) c7) w7) := hr7
                    have O7 : Hid (OutAt w5.heap.size w5 (w7.setCell ⟨w5.heap.size, 1, none⟩ (.slice a7 (k + 1) c7)) (.slice a5 d.length c5) a7 c7 (k + 1) (againD e (k + 1))) := by rw [hx] at ho7; exact ho7
                    have m1 := hb7.c1
                    have m2 : w7.frozen? ⟨w5.heap.size, 1, none⟩ = false := free_at hb7 1
                    have m3 := (OK.out.box.keep (bAlloc (Below.refl wr.heap.size wr) (.cells #[.int .i64 x] 3))).c1
                    clear hr7 hb7 ho7 hx
                    subst hx0
                    go_wp2_with (at_builtin; refine wpList_append_ty rfl _ _ 24 24 rfl _ _ _ rfl rfl R7.out ?_)
                    go_roundw
                    case rel => exact ⟨k + 1, _, _, by omega, by go_num, O7.out⟩
                    case measure => simp [intOf]; omega
                  · have L0 : k % e.length < e.length := Nat.mod_lt _ (List.length_pos_iff.2 he)
                    have n2 : (0 : Int) < (e.length : Int) := by have := List.length_pos_iff.2 he; omega
                    have hx : againD e k ++ [e.getD (k % e.length) 0] = againD e (k + 1) := by rw [← againD_succ, if_neg he]
                    obtain ⟨b1, o1, rfl, hb1, c1⟩ := (K5.out.keep OK.out.below).at L0
                    obtain ⟨M, hM⟩ : ∃ M, M = k % e.length := ⟨_, rfl⟩
                    have eM : (k : Int) % (e.length : Int) = (M : Int) := by rw [hM]; simp
                    rw [← hM] at hx c1 L0
                    have LM : (M : Int) < (e.length : Int) := by omega
                    clear hM he
                    generalize e.getD M 0 = x at *
                    go_wp2
                    go_quiet (fail)
                    generalize hWq : wr.drewN nq = wq
                    have OQ : Hid (OutAt w5.heap.size w5 wq (.slice a5 d.length c5) ad cd k (againD e k)) := by rw [← hWq]; exact OK.out.keep (bDrewN (Below.refl _ _) nq)
                    clear hWq g0 g1 g2 g3 y0 y1
                    obtain ⟨g0, g1, g2, g3⟩ := OQ.out.cells
                    obtain ⟨a7, c7, w7, hr7, hb7, ho7⟩ := OQ.out.grow1 (by omega) x
                    have R7 : Hid ((Builtin.append_ #[24, 24] 24 #[.slice ad k cd, .slice (some ⟨wq.heap.size, 0, none⟩) 1 1]).run Try.prog (wq.alloc (.cells #[.int .i64 x] 3)) = .ok (.slice a7 (k + 1) c7) w7) := hr7
                    have O7 : Hid (OutAt w5.heap.size w5 (w7.setCell ⟨w5.heap.size, 1, none⟩ (.slice a7 (k + 1) c7)) (.slice a5 d.length c5) a7 c7 (k + 1) (againD e (k + 1))) := by rw [hx] at ho7; exact ho7
                    have m1 := hb7.c1
                    have m2 : w7.frozen? ⟨w5.heap.size, 1, none⟩ = false := free_at hb7 1
                    have m3 := (OQ.out.box.keep (bAlloc (Below.refl wq.heap.size wq) (.cells #[.int .i64 x] 3))).c1
                    clear hr7 hb7 ho7 hx
                    go_wp2_with (at_builtin; refine wpList_append_ty rfl _ _ 24 24 rfl _ _ _ rfl rfl R7.out ?_)
                    go_roundw
                    case rel => exact ⟨k + 1, _, _, by omega, by go_num, O7.out⟩
                    case measure => simp [intOf]; omega
                · obtain rfl : k = n := by omega
                  have HA : Hid (Arr w2.heap.size wr.heap.size wr (.agg #[.slice a5 d.length c5, .slice ad k cd]) d (againD e k)) := OK.out.arr P5.out (Nat.le_refl _) B5.out.size
                  have RR2 : Hid (Box wr (w.heap.size + 1 + 1) (.slice none 0 0) (.slice none 0 0) 26) := (R2.out.keep B5.out).keep OK.out.below
                  have r0 := RR2.out.c0
                  have r1 := RR2.out.c1
                  have f0 : wr.frozen? ⟨w.heap.size + 1 + 1, 0, none⟩ = false := free_at RR2.out 0
                  have f1 : wr.frozen? ⟨w.heap.size + 1 + 1, 1, none⟩ = false := free_at RR2.out 1
                  have L1 : Hid (w.heap.size + 1 + 1 < w2.heap.size) := R2.out.lt
                  have BW : Hid (Below w.heap.size w wr) := bTrans (bTrans HB2.out B5.out) OK.out.below
                  have HR : Hid (((wr.setCell ⟨w.heap.size + 1 + 1, 0, none⟩ (.slice a5 d.length c5)).setCell ⟨w.heap.size + 1 + 1, 1, none⟩ (.slice ad k cd)).heap[w.heap.size + 1 + 1]? = some (.cells #[.slice a5 d.length c5, .slice ad k cd] 26 (0, 0))) := arr_stored RR2.out
                  go_wp2
                  refine bodyPost_ret (results_arr_tmp Try.results25 _ _ (w.heap.size + 1 + 1) _ _ rfl HR.out) rfl ?_
                  refine ⟨_, by rw [ER.out]; rfl, ?_, below_setCell (below_setCell BW.out (by omega) _ _) (by omega) _ _⟩
                  rw [ER.out]
                  have L := L1.out
                  exact ((HA.out.setCell L _ _).setCell L _ _).mono HB2.out.size (by simp only [size_setCell]; omega)
    · have HO' : Hid (arrOk t e = false) := by show _ = _; simpa using ho'
      have ER : reshapeR s d t e = (1, [], []) := by unfold reshapeR; rw [show reshapeC s d t e = 1 from by unfold reshapeC; rw [if_neg (fun q => ho' q.2)]]; rfl
      rw [ER]
      clear ER ho ho'
      go_enter Try.func25, Try.ntmps25
      go_wp2_with fail
      refine (arrOk_spec (H.out.keep (bAlloc (bAlloc (bAlloc (bAlloc (Below.refl _ _) _) _) _) _)) HD.out).mono ?_
      rintro r w1 ⟨rfl, hb⟩
      have HB1 : Hid (Below w.heap.size w w1) := bTrans (bAlloc (bAlloc (bAlloc (bAlloc (Below.refl _ _) _) _) _) _) hb
      have q1 := blocks4 w (.cells #[.slice a s.length c, .slice b d.length f] 26) (.cells #[.slice a' t.length c', .slice b' e.length f'] 26) (.cells #[.slice none 0 0, .slice none 0 0] 26) (.cells #[.slice none 0 0, .slice none 0 0] 26)
      have X1 : Hid (Box w1 w.heap.size (.slice a s.length c) (.slice b d.length f) 26) := Box.keep q1.1 hb
      have Y1 : Hid (Box w1 (w.heap.size + 1) (.slice a' t.length c') (.slice b' e.length f') 26) := Box.keep q1.2.1 hb
      have R1 : Hid (Box w1 (w.heap.size + 1 + 1) (.slice none 0 0) (.slice none 0 0) 26) := Box.keep q1.2.2.1 hb
      have Z1 : Hid (Box w1 (w.heap.size + 1 + 1 + 1) (.slice none 0 0) (.slice none 0 0) 26) := Box.keep q1.2.2.2 hb
      clear hb q1
      rw [HO.out]
      have x0 := X1.out.c0
      have x1 := X1.out.c1
      have y0 := Y1.out.c0
      have y1 := Y1.out.c1
      have r0 := R1.out.c0
      have r1 := R1.out.c1
      have f0 : w1.frozen? ⟨w.heap.size + 1 + 1, 0, none⟩ = false := free_at R1.out 0
      have f1 : w1.frozen? ⟨w.heap.size + 1 + 1, 1, none⟩ = false := free_at R1.out 1
      have z0 := Z1.out.c0
      have z1 := Z1.out.c1
      go_wp2_with fail
      refine (arrOk_spec (K.out.keep HB1.out) HE.out).mono ?_
      rintro r w2 ⟨rfl, hb⟩
      have HB2 : Hid (Below w.heap.size w w2) := bTrans HB1.out hb
      have X2 : Hid (Box w2 w.heap.size (.slice a s.length c) (.slice b d.length f) 26) := X1.out.keep hb
      have Y2 : Hid (Box w2 (w.heap.size + 1) (.slice a' t.length c') (.slice b' e.length f') 26) := Y1.out.keep hb
      have R2 : Hid (Box w2 (w.heap.size + 1 + 1) (.slice none 0 0) (.slice none 0 0) 26) := R1.out.keep hb
      have Z2 : Hid (Box w2 (w.heap.size + 1 + 1 + 1) (.slice none 0 0) (.slice none 0 0) 26) := Z1.out.keep hb
      rw [HO'.out]
      clear hb
      clear x0 x1 y0 y1 r0 r1 z0 z1 f0 f1
      clear X1 Y1 R1 Z1 HB1
      have x0 := X2.out.c0
      have x1 := X2.out.c1
      have y0 := Y2.out.c0
      have y1 := Y2.out.c1
      have r0 := R2.out.c0
      have r1 := R2.out.c1
      have f0 : w2.frozen? ⟨w.heap.size + 1 + 1, 0, none⟩ = false := free_at R2.out 0
      have f1 : w2.frozen? ⟨w.heap.size + 1 + 1, 1, none⟩ = false := free_at R2.out 1
      have z0 := Z2.out.c0
      have z1 := Z2.out.c1
      have HR : Hid (((w2.setCell ⟨w.heap.size + 1 + 1, 0, none⟩ (.slice none 0 0)).setCell ⟨w.heap.size + 1 + 1, 1, none⟩ (.slice none 0 0)).heap[w.heap.size + 1 + 1]? = some (.cells #[.slice none 0 0, .slice none 0 0] 26 (0, 0))) := arr_stored R2.out
      go_wp2
      refine bodyPost_ret (results_arr_tmp Try.results25 _ _ (w.heap.size + 1 + 1) _ _ rfl HR.out) rfl ?_
      exact ⟨_, rfl, arr_zero _ _ _, below_setCell (below_setCell HB2.out (by omega) _ _) (by omega) _ _⟩
  · have HO : Hid (arrOk s d = false) := by show _ = _; simpa using ho
    have ER : reshapeR s d t e = (1, [], []) := by unfold reshapeR; rw [show reshapeC s d t e = 1 from by unfold reshapeC; rw [if_neg (fun q => ho q.1)]]; rfl
    rw [ER]
    clear ER ho
    go_enter Try.func25, Try.ntmps25
    go_wp2_with fail
    refine (arrOk_spec (H.out.keep (bAlloc (bAlloc (bAlloc (bAlloc (Below.refl _ _) _) _) _) _)) HD.out).mono ?_
    rintro r w1 ⟨rfl, hb⟩
    have HB1 : Hid (Below w.heap.size w w1) := bTrans (bAlloc (bAlloc (bAlloc (bAlloc (Below.refl _ _) _) _) _) _) hb
    have q1 := blocks4 w (.cells #[.slice a s.length c, .slice b d.length f] 26) (.cells #[.slice a' t.length c', .slice b' e.length f'] 26) (.cells #[.slice none 0 0, .slice none 0 0] 26) (.cells #[.slice none 0 0, .slice none 0 0] 26)
    have X1 : Hid (Box w1 w.heap.size (.slice a s.length c) (.slice b d.length f) 26) := Box.keep q1.1 hb
    have Y1 : Hid (Box w1 (w.heap.size + 1) (.slice a' t.length c') (.slice b' e.length f') 26) := Box.keep q1.2.1 hb
    have R1 : Hid (Box w1 (w.heap.size + 1 + 1) (.slice none 0 0) (.slice none 0 0) 26) := Box.keep q1.2.2.1 hb
    have Z1 : Hid (Box w1 (w.heap.size + 1 + 1 + 1) (.slice none 0 0) (.slice none 0 0) 26) := Box.keep q1.2.2.2 hb
    clear hb q1
    rw [HO.out]
    have x0 := X1.out.c0
    have x1 := X1.out.c1
    have y0 := Y1.out.c0
    have y1 := Y1.out.c1
    have r0 := R1.out.c0
    have r1 := R1.out.c1
    have f0 : w1.frozen? ⟨w.heap.size + 1 + 1, 0, none⟩ = false := free_at R1.out 0
    have f1 : w1.frozen? ⟨w.heap.size + 1 + 1, 1, none⟩ = false := free_at R1.out 1
    have z0 := Z1.out.c0
    have z1 := Z1.out.c1
    have HR : Hid (((w1.setCell ⟨w.heap.size + 1 + 1, 0, none⟩ (.slice none 0 0)).setCell ⟨w.heap.size + 1 + 1, 1, none⟩ (.slice none 0 0)).heap[w.heap.size + 1 + 1]? = some (.cells #[.slice none 0 0, .slice none 0 0] 26 (0, 0))) := arr_stored R1.out
    go_wp2
    refine bodyPost_ret (results_arr_tmp Try.results25 _ _ (w.heap.size + 1 + 1) _ _ rfl HR.out) rfl ?_
    exact ⟨_, rfl, arr_zero _ _ _, below_setCell (below_setCell HB1.out (by omega) _ _) (by omega) _ _⟩
end Go.Proofs.Ytfmheanmkfdjnac
