/-
  Walks: the specification's HeapOk.
-/
import Derived.Test.YtmmjidhpmbcoiaaHeapM
import Derived.Test.YtmmjidhpmbcoiaaHeapF
import Derived.Test.YtmmjidhpmbcoiaaBoolI
import Derived.Test.YtmmjidhpmbcoiaaSmall
namespace Go.Proofs.Ytmmjidhpmbcoiaa
open Go.RowKit
set_option linter.unusedVariables false
set_option linter.unusedSimpArgs false
theorem OwnBools.win {w w' : World} {g : Nat} {B : List Bool} {X Y : Nat} (h : OwnBools w g B) (hw : Win X Y w w') (hd : g < X ∨ Y ≤ g) : OwnBools w' g B := by
  unfold OwnBools at *
  rw [hw.block g (lt_of_heapA h) hd]; exact h
theorem OwnBools.keep {w w' : World} {g : Nat} {B : List Bool} (h : OwnBools w g B) (hb : Below w.heap.size w w') : OwnBools w' g B := h.win (X := w.heap.size) (Y := w.heap.size) (Below.win hb) (.inl (lt_of_heapA h))
theorem OwnBools.lt {w : World} {g : Nat} {B : List Bool} (h : OwnBools w g B) : g < w.heap.size := lt_of_heapA h
theorem ret_b {a b : Bool} (h : a = b) : Ending.returned (.bool a) = .returned (.bool b) := by rw [h]
set_option maxRecDepth 20000 in
set_option maxHeartbeats 16000000 in
theorem heapOk_spec {w : World} {v : Value} {W : List Int} {t : Int} {n : Nat} {E : Nat → Cel} (h : HI w v W t n E) (he : (∀ i, in64 (E i).f ∧ in64 (E i).l) ∧ in64 t) (hW : W.length ≤ 1048576) (hn : n ≤ 1048576) :
    Calls Try.prog 25 #[v] w fun e w' => e = .returned (.bool (hOkB W.length t n E)) ∧ Below w.heap.size w w' := by
  obtain ⟨wa, wc, ca, cc, rfl, h1, h2, h3, h4⟩ := h
  have H3 : Hid (CsA w ca n E) := h3
  have HE : Hid ((∀ i, in64 (E i).f ∧ in64 (E i).l) ∧ in64 t) := he
  clear h1 h2 h3 h4 he
  generalize W.length = m at *
  by_cases c1 : (m : Int) > 6000
  · rw [hOkB_false (fun h => by have := h.1; omega)]
    go_enter Try.func25, Try.ntmps25
    go_wp2
    go_ret
    exact ⟨rfl, bAlloc (Below.refl _ _) _⟩
  by_cases c2 : ¬ (0 ≤ t ∧ t ≤ (m : Int))
  · rw [hOkB_false (fun h => c2 ⟨h.2.1, h.2.2.1⟩)]
    have hq : (decide ((0 : Int) ≤ t) && decide (t ≤ (m : Int))) = false := by simp; omega
    go_enter Try.func25, Try.ntmps25
    go_wp2_with (go_at_call 43; refine (in_spec _ _ _ _).mono ?_; rintro r w1 ⟨rfl, hw⟩; subst w1; rw [hq])
    go_ret
    exact ⟨rfl, bAlloc (Below.refl _ _) _⟩
  have hq : (decide ((0 : Int) ≤ t) && decide (t ≤ (m : Int))) = true := by simp; omega
  by_cases c3 : (n : Int) > 200
  · rw [hOkB_false (fun h => by have := h.2.2.2.1; omega)]
    go_enter Try.func25, Try.ntmps25
    go_wp2_with (go_at_call 43; refine (in_spec _ _ _ _).mono ?_; rintro r w1 ⟨rfl, hw⟩; subst w1; rw [hq])
    go_ret
    exact ⟨rfl, bAlloc (Below.refl _ _) _⟩
  obtain ⟨T, rfl⟩ : ∃ T : Nat, t = (T : Int) := ⟨t.toNat, by omega⟩
  have hmk : ∀ w, (Instr.makeSlice 82 (.int .i64 (T : Int)) (.int .i64 (T : Int))).run Try.prog w = .ok (.slice (some ⟨w.heap.size, 0, none⟩) T T) (w.alloc (.cells (bvals (List.replicate T false)) 4)) := fun w => make_bools T (by omega) w
  have OK : Hid (okTo (T : Int) n E → hOkB m (T : Int) n E = true) := fun h => hOkB_true (ok_of (by omega) (by omega) (by omega) (by omega) h)
  go_enter Try.func25, Try.ntmps25
  go_wp2_with (go_at_call 43; refine (in_spec _ _ _ _).mono ?_; rintro r w1 ⟨rfl, hw⟩; subst w1; rw [hq])
  clear hmk hq
  generalize hW1 : (w.alloc (.cells #[.slice wa m wc, .int .i64 (T : Int), .slice ca n cc] 28)).alloc (.cells (bvals (List.replicate T false)) 4) = w1
  have X1 : Hid (Box3 w1 w.heap.size (.slice wa m wc) (.int .i64 (T : Int)) (.slice ca n cc) 28) := by rw [← hW1]; exact (box3_new _ _ _ _ _).alloc _
  have B1 : Hid (Below w.heap.size w w1) := by rw [← hW1]; exact bAlloc (bAlloc (Below.refl _ _) _) _
  have O1 : Hid (OwnBools w1 (w.heap.size + 1) (List.replicate T false)) := by
    have : OwnBools ((w.alloc (.cells #[.slice wa m wc, .int .i64 (T : Int), .slice ca n cc] 28)).alloc (.cells (bvals (List.replicate T false)) 4)) (w.alloc (.cells #[.slice wa m wc, .int .i64 (T : Int), .slice ca n cc] 28)).heap.size (List.replicate T false) := heap_alloc_new _ _
    show OwnBools _ _ _
    rw [← hW1]; simpa using this
  clear hW1
  go_loopw [4] (fun i w' => ∃ (k : Nat) (B : List Bool), k ≤ n ∧ i = .int .i64 (k : Int) ∧ Box3 w' w.heap.size (.slice wa m wc) (.int .i64 (T : Int)) (.slice ca n cc) 28 ∧ OwnBools w' (w.heap.size + 1) B ∧ (Us T B k E 0 0 ∧ okTo (T : Int) k E) ∧ Below w.heap.size w w') (fun i _ => n - (intOf i).toNat)
  case atStart => exact ⟨0, _, by omega, rfl, X1.out, O1.out, ⟨Us.start T E, okTo.zero _ _⟩, B1.out⟩
  case round =>
    clear X1 O1 B1
    obtain ⟨k, B, hk, rfl, hX, hO, hU, hB⟩ := hrel
    have XK : Hid (Box3 wr w.heap.size (.slice wa m wc) (.int .i64 (T : Int)) (.slice ca n cc) 28) := hX
    have OB : Hid (OwnBools wr (w.heap.size + 1) B) := hO
    have UK : Hid (Us T B k E 0 0 ∧ okTo (T : Int) k E) := hU
    have BK : Hid (Below w.heap.size w wr) := hB
    clear hX hO hU hB
    have x1 := XK.out.c1
    have x2 := XK.out.c2
    by_cases hlt : (k : Int) < (n : Int)
    · have L : k < n := by omega
      obtain ⟨o, off, rfl, ho, p0, p1, p2⟩ := (H3.out.keep BK.out).at L
      have EQ : Hid (E k = ⟨(E k).f, (E k).l, (E k).v⟩) := rfl
      have I64 : in64 (E k).f ∧ in64 (E k).l := HE.out.1 k
      generalize hf : (E k).f = f at *
      generalize hl : (E k).l = l at *
      generalize hv : (E k).v = b at *
      have HF : Hid ((E k).f = f) := hf
      have HL : Hid ((E k).l = l) := hl
      have HV : Hid ((E k).v = b) := hv
      clear hf hl hv EQ
      have y1 : ∀ ob : Obj, (wr.alloc ob).cell? ⟨w.heap.size, 1, none⟩ = some (.int .i64 (T : Int)) := fun ob => (XK.out.alloc ob).c1
      cases b with
      | false =>
        by_cases d1 : f = 0
        · subst d1
          by_cases d2 : l = 0
          · subst d2
            have n0 : ((0 : Int) != 0) = false := by simp
            go_wp2
            go_roundw
            case rel => exact ⟨k + 1, B, by omega, by go_num, XK.out.alloc _, OB.out.keep (bAlloc (Below.refl _ _) _), ⟨UK.out.1.dead HV.out, UK.out.2.dead HV.out HF.out HL.out⟩, bAlloc BK.out _⟩
            case measure => simp [intOf]; omega
          · have OF : Hid (hOkB m (T : Int) n E = false) := hOkB_false (not_ok_fit L fun h => d2 (by have := (h.1 HV.out).2; rw [HL.out] at this; exact this))
            have n0 : ((0 : Int) != 0) = false := by simp
            have n1 : (l != 0) = true := by simpa using d2
            go_wp2
            go_ret
            exact ⟨ret_b OF.out.symm, bAlloc BK.out _⟩
        · have OF : Hid (hOkB m (T : Int) n E = false) := hOkB_false (not_ok_fit L fun h => d1 (by have := (h.1 HV.out).1; rw [HF.out] at this; exact this))
          have n1 : (f != 0) = true := by simpa using d1
          go_wp2
          go_ret
          exact ⟨ret_b OF.out.symm, bAlloc BK.out _⟩
      | true =>
        by_cases d1 : ¬ (0 ≤ f ∧ f ≤ (T : Int))
        · have OF : Hid (hOkB m (T : Int) n E = false) := hOkB_false (not_ok_fit L fun h => by
            have := h.2 HV.out
            rw [HF.out, HL.out] at this
            omega)
          have hq : (decide ((0 : Int) ≤ f) && decide (f ≤ (T : Int))) = false := by simp; omega
          go_wp2_with (go_at_call 43; refine (in_spec _ _ _ _).mono ?_; rintro r w1 ⟨rfl, hw⟩; subst w1; rw [hq])
          go_ret
          exact ⟨ret_b OF.out.symm, bAlloc BK.out _⟩
        have hq : (decide ((0 : Int) ≤ f) && decide (f ≤ (T : Int))) = true := by simp; omega
        have hwr : IntKind.i64.wrap ((T : Int) - f) = (T : Int) - f := by rw [IntKind.wrap_i64]; omega
        by_cases d2 : ¬ (1 ≤ l ∧ l ≤ (T : Int) - f)
        · have OF : Hid (hOkB m (T : Int) n E = false) := hOkB_false (not_ok_fit L fun h => by
            have := h.2 HV.out
            rw [HF.out, HL.out] at this
            omega)
          have hq2 : (decide ((1 : Int) ≤ l) && decide (l ≤ (T : Int) - f)) = false := by simp; omega
          go_wp2_with (go_at_call 43; refine (in_spec _ _ _ _).mono ?_; rintro r w1 ⟨rfl, hw⟩; subst w1; (first | rw [hq] | rw [hq2]))
          go_ret
          exact ⟨ret_b OF.out.symm, bAlloc BK.out _⟩
        have hq2 : (decide ((1 : Int) ≤ l) && decide (l ≤ (T : Int) - f)) = true := by simp; omega
        obtain ⟨F, rfl⟩ : ∃ F : Nat, f = (F : Int) := ⟨f.toNat, by omega⟩
        obtain ⟨N, rfl⟩ : ∃ N : Nat, l = (N : Int) := ⟨l.toNat, by omega⟩
        go_wp2_with (go_at_call 43; refine (in_spec _ _ _ _).mono ?_; rintro r w1 ⟨rfl, hw⟩; subst w1; (first | rw [hq] | rw [hq2]))
        clear hq hq2 x1 x2 y1 p0 p1 p2
        generalize hW2 : wr.alloc (.cells #[.int .i64 (F : Int), .int .i64 (N : Int), .bool true] 47) = w2
        have X2 : Hid (Box3 w2 w.heap.size (.slice wa m wc) (.int .i64 (T : Int)) (.slice (some ⟨o, off, none⟩) n cc) 28) := by rw [← hW2]; exact XK.out.alloc _
        have Y2 : Hid (Box3 w2 wr.heap.size (.int .i64 (F : Int)) (.int .i64 (N : Int)) (.bool true) 47) := by rw [← hW2]; exact box3_new _ _ _ _ _
        have O2 : Hid (OwnBools w2 (w.heap.size + 1) B) := by rw [← hW2]; exact OB.out.keep (bAlloc (Below.refl _ _) _)
        have B2 : Hid (Below w.heap.size w w2) := by rw [← hW2]; exact bAlloc BK.out _
        have LO : Hid (w.heap.size + 1 < wr.heap.size) := OB.out.lt
        clear hW2 XK OB BK ho
        generalize wr.heap.size = G at *
        go_loopw [6] (fun i w' => ∃ (q : Nat) (B' : List Bool), F ≤ q ∧ q ≤ F + N ∧ i = .int .i64 (q : Int) ∧ Box3 w' w.heap.size (.slice wa m wc) (.int .i64 (T : Int)) (.slice (some ⟨o, off, none⟩) n cc) 28 ∧ Box3 w' G (.int .i64 (F : Int)) (.int .i64 (N : Int)) (.bool true) 47 ∧ OwnBools w' (w.heap.size + 1) B' ∧ (Us T B' k E (F : Int) (q : Int) ∧ ∀ p : Int, (F : Int) ≤ p → p < q → ¬ ∃ i, i < k ∧ (E i).v = true ∧ (E i).f ≤ p ∧ p < (E i).f + (E i).l) ∧ Below w.heap.size w w') (fun i _ => (F + N) - (intOf i).toNat)
        case atStart => exact ⟨F, B, by omega, by omega, rfl, X2.out, Y2.out, O2.out, ⟨UK.out.1.at0 _, fun p h1 h2 => absurd h2 (by omega)⟩, B2.out⟩
        case round =>
          clear X2 Y2 O2 B2
          obtain ⟨q, B', hq1, hq2, rfl, hX, hY, hO, hU, hB⟩ := hrel
          have XQ : Hid (Box3 wr w.heap.size (.slice wa m wc) (.int .i64 (T : Int)) (.slice (some ⟨o, off, none⟩) n cc) 28) := hX
          have YQ : Hid (Box3 wr G (.int .i64 (F : Int)) (.int .i64 (N : Int)) (.bool true) 47) := hY
          have OQ : Hid (OwnBools wr (w.heap.size + 1) B') := hO
          have UQ : Hid (Us T B' k E (F : Int) (q : Int) ∧ ∀ p : Int, (F : Int) ≤ p → p < q → ¬ ∃ i, i < k ∧ (E i).v = true ∧ (E i).f ≤ p ∧ p < (E i).f + (E i).l) := hU
          have BQ : Hid (Below w.heap.size w wr) := hB
          clear hX hY hO hU hB
          have y0 := YQ.out.c0
          have y1 := YQ.out.c1
          have hw9 : IntKind.i64.wrap ((F : Int) + (N : Int)) = (F : Int) + (N : Int) := by rw [IntKind.wrap_i64]; omega
          by_cases hlt2 : (q : Int) < (F : Int) + (N : Int)
          · have qT : q < T := by omega
            have qb : (q : Int) < (T : Int) := by omega
            have hu := UQ.out.1.2 q qT
            have gq : wr.cell? ⟨w.heap.size + 1, q, none⟩ = some (.bool (B'.getD q false)) := OQ.out.cell (by rw [List.getD_eq_getElem?_getD, List.getElem?_eq_getElem (by rw [UQ.out.1.1]; exact qT)]; rfl)
            have fq := OQ.out.free q
            cases hg : B'.getD q false with
            | true =>
              rw [hg] at gq hu
              have OF : Hid (hOkB m (T : Int) n E = false) := by
                rcases hu.1 rfl with ⟨i, hi, a1, a2, a3⟩ | ⟨_, h2⟩
                · exact hOkB_false (not_ok_both hi L a1 a2 a3 HV.out (by rw [HF.out]; omega) (by rw [HF.out, HL.out]; exact hlt2))
                · omega
              clear hu
              go_wp2
              go_ret
              exact ⟨ret_b OF.out.symm, BQ.out⟩
            | false =>
              rw [hg] at gq hu
              have NQ : Hid (∀ p : Int, (F : Int) ≤ p → p < ((q + 1 : Nat) : Int) → ¬ ∃ i, i < k ∧ (E i).v = true ∧ (E i).f ≤ p ∧ p < (E i).f + (E i).l) := fun p h1 h2 hx => by
                by_cases e : p = (q : Int)
                · subst e
                  have := hu.2 (.inl hx)
                  cases this
                · exact UQ.out.2 p h1 (by omega) hx
              have SQ : Hid (Us T (B'.set q true) k E (F : Int) ((q + 1 : Nat) : Int)) := by
                have := UQ.out.1.set (by omega) qT
                rw [show ((q + 1 : Nat) : Int) = (q : Int) + 1 by omega]
                exact this
              clear hu
              go_wp2
              go_roundw
              case rel => exact ⟨q + 1, B'.set q true, by omega, by omega, by go_num, XQ.out.other (by omega) _, YQ.out.other (by have := LO.out; omega) _, OQ.out.set q true, ⟨SQ.out, NQ.out⟩, below_setCell BQ.out (by omega) _ _⟩
              case measure => simp [intOf]; omega
          · obtain rfl : q = F + N := by omega
            have DK : Hid (Us T B' (k + 1) E 0 0 ∧ okTo (T : Int) (k + 1) E) := by
              refine ⟨Us.done ?_ HV.out, UK.out.2.live HV.out ?_ ?_ ?_ ?_⟩
              · rw [HF.out, HL.out]
                have := UQ.out.1
                rw [show ((F + N : Nat) : Int) = (F : Int) + N by omega] at this
                exact this
              · rw [HL.out]; omega
              · rw [HF.out]; omega
              · rw [HF.out, HL.out]; omega
              · rw [HF.out, HL.out]
                intro p h1 h2
                exact UQ.out.2 p h1 (by omega)
            go_wp2
            go_roundw
            case rel => exact ⟨k + 1, B', by omega, by go_num, XQ.out, OQ.out, DK.out, BQ.out⟩
            case measure => simp [intOf]; omega
    · obtain rfl : k = n := by omega
      have OF : Hid (hOkB m (T : Int) k E = true) := OK.out UK.out.2
      go_wp2
      go_ret
      exact ⟨ret_b OF.out.symm, BK.out⟩
end Go.Proofs.Ytmmjidhpmbcoiaa
