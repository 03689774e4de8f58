/-
  Walks: the specification's ArrayPack.
-/
import Derived.Test.YtonkiipdobpfgaaArrPI
import Derived.Test.YtonkiipdobpfgaaSpecArr
namespace Go.Proofs.Ytonkiipdobpfgaa
open Go.RowKit
set_option linter.unusedVariables false
set_option linter.unusedSimpArgs false
theorem u8_bd (x : Int) (h : 0 ≤ x) (h2 : x ≤ 255) : IntKind.u8.wrap x = x := by rw [IntKind.wrap_u8]; omega
theorem i64_bd (x : Int) (h : 0 ≤ x) (h2 : x ≤ 1048576) : IntKind.i64.wrap x = x := by rw [IntKind.wrap_i64]; omega
theorem u8_tmod (m : Nat) : IntKind.u8.wrap ((m : Int).tmod 256) = (m : Int) % 256 := by
  rw [Int.tmod_eq_emod_of_nonneg (Int.natCast_nonneg m), u8_bd _ (by omega) (by omega)]
theorem u8_quo {m : Nat} (h : m ≤ 300) : IntKind.u8.wrap (IntKind.i64.wrap ((m : Int) / 256)) = (m : Int) / 256 % 256 := by
  rw [i64_bd _ (by omega) (by omega), u8_bd _ (by omega) (by omega)]
  omega
set_option maxRecDepth 20000 in
set_option maxHeartbeats 8000000 in
/-- The specification's ArrayPack. -/
theorem arrayPack_spec {s d : List Int} {w : World} {v : Value} (h : ArrI w v s d) (hd : d.length ≤ 1048576) :
    Calls Try.prog 7 #[v] w fun r w' => APost w (arrOk s d) (if arrOk s d = true then apack s d else []) r w' := by
  have H : Hid (ArrI w v s d) := h
  have CO : Hid (∀ W, Below w.heap.size w W → Calls Try.prog 21 #[v] W fun r w' => r = .returned (.bool (arrOk s d)) ∧ Below W.heap.size W w') := fun W hb => arrOk_spec (h.keep hb) hd
  obtain ⟨a, c, b, e, rfl, ia, ib, ga, gb⟩ := h
  clear ia ib ga gb hd
  cases hc : arrOk s d
  · rw [hc] at CO
    rw [if_neg (by decide)]
    clear hc
    go_enter Try.func7, Try.ntmps7
    go_wp2_with fail
    refine (CO.out _ (bAlloc (Below.refl _ _) _)).mono ?_
    rintro r w1 ⟨rfl, hb⟩
    have B1 : Hid (Below w.heap.size w w1) := bTrans (bAlloc (Below.refl _ _) _) hb
    clear hb
    go_wp2
    go_ret2
    exact ⟨_, _, rfl, newB_alloc w1 [] B1.out.size (by simp), bAlloc B1.out _⟩
  · rw [if_pos rfl]
    have s3 := arrOk_rk hc
    have d3 := arrOk_len hc
    have OKD : Hid (d.all ok = true) := arrOk_all hc
    have DM : Hid (∀ k, k < s.length → ∃ m : Nat, s.getD k 0 = (m : Int) ∧ m ≤ 300) := fun k hk => arrOk_dim hc hk
    rw [hc] at CO
    clear hc
    have EP : Hid (apack s d = ((s.length : Int) :: cnts s) ++ numsBy d) := rfl
    generalize apack s d = PL at *
    go_enter Try.func7, Try.ntmps7
    go_wp2_with fail
    refine (CO.out _ (bAlloc (Below.refl _ _) _)).mono ?_
    rintro r w1 ⟨rfl, hb⟩
    have B1 : Hid (Below w.heap.size w w1) := bTrans (bAlloc (Below.refl _ _) _) hb
    have X1 : Hid (Box w1 w.heap.size (.slice a s.length c) (.slice b d.length e) 29) := (box_new w _ _ _).keep hb
    clear hb CO
    have x0 := X1.out.c0
    have NA : Hid (∀ W, Below w1.heap.size w1 W → Ints W a s ∧ Ints W b d) := fun W hW => by
      obtain ⟨_, _, _, _, ev, h1, h2, _, _⟩ := H.out.keep (bTrans B1.out hW)
      cases ev
      exact ⟨h1, h2⟩
    go_wp2_with fail
    generalize hW : w1.alloc (.cells #[.int .u8 (s.length : Int)] 5) = W1
    have N1 : Hid (NewB w1.heap.size W1 (.slice (some ⟨w1.heap.size, 0, none⟩) 1 1) ((s.length : Int) :: cnts (s.take 0))) := by rw [← hW]; exact newB_alloc w1 [(s.length : Int)] (Nat.le_refl _) (by simp)
    have BB1 : Hid (Below w1.heap.size w1 W1) := by rw [← hW]; exact one_below
    clear hW x0
    go_loopw [4, 5] (fun u i w' => ∃ (k : Nat) (a1 : Option Addr) (c1 : Nat), k ≤ s.length ∧ u = .slice a1 ((s.length : Int) :: cnts (s.take k)).length c1 ∧ i = .int .i64 (k : Int) ∧ NewB w1.heap.size w' (.slice a1 ((s.length : Int) :: cnts (s.take k)).length c1) ((s.length : Int) :: cnts (s.take k)) ∧ Below w1.heap.size w1 w') (fun _ i _ => s.length - (intOf i).toNat)
    case atStart => exact ⟨0, _, _, by omega, rfl, rfl, N1.out, BB1.out⟩
    case round =>
      obtain ⟨k, a1, c1, hk, rfl, rfl, hN, hb⟩ := hrel
      have NK : Hid (NewB w1.heap.size wr (.slice a1 ((s.length : Int) :: cnts (s.take k)).length c1) ((s.length : Int) :: cnts (s.take k))) := hN
      have BK : Hid (Below w1.heap.size w1 wr) := hb
      clear hN hb N1 BB1
      have x0 := (X1.out.keep BK.out).c0
      by_cases hlt : (k : Int) < (s.length : Int)
      · have L : k < s.length := by omega
        obtain ⟨b1, o1, rfl, _, cx⟩ := (NA.out _ BK.out).1.at L
        obtain ⟨m, hm, hm3⟩ := DM.out k L
        have ET : Hid ((s.length : Int) :: cnts (s.take (k + 1)) = ((s.length : Int) :: cnts (s.take k)) ++ [(m : Int) % 256, (m : Int) / 256 % 256]) := by show _ = _; rw [cnts_take L, hm]; rfl
        rw [hm] at cx
        have LA : Hid (((s.length : Int) :: cnts (s.take k)).length ≤ 7) := by
          show _ ≤ _
          rw [List.length_cons, cnts_len, List.length_take]
          omega
        obtain ⟨F', hF'⟩ : ∃ F', F' = (s.length : Int) :: cnts (s.take (k + 1)) := ⟨_, rfl⟩
        have HF' : Hid (F' = (s.length : Int) :: cnts (s.take (k + 1))) := hF'
        rw [← hF'] at ET
        clear hF' L hm
        generalize (s.length : Int) :: cnts (s.take k) = A at *
        have LF : Hid (F'.length = A.length + 2) := by show _ = _; rw [ET.out]; simp
        have e1 := u8_tmod m
        have e2 := u8_quo hm3
        have bA : Below wr.heap.size wr (wr.alloc (.cells (bvals [(m : Int) % 256, (m : Int) / 256 % 256]) 5)).drew := (bAlloc (Below.refl _ _) _).drew
        obtain ⟨a5, c5, w5, hr, h5, hg5⟩ := growBL (w := (wr.alloc (.cells (bvals [(m : Int) % 256, (m : Int) / 256 % 256]) 5)).drew) (NK.out.keep bA) ((bys_new wr [(m : Int) % 256, (m : Int) / 256 % 256] 5).keep ((Below.refl _ _).drew)) (Nat.le_trans BK.out.size bA.size) (by have := LA.out; simp; omega) 2
        rw [← ET.out] at hr h5 hg5
        rw [LF.out] at hr h5 hg5
        have R5 : Hid ((Builtin.append_ #[26, 26] 26 #[.slice a1 A.length c1, .slice (some ⟨wr.heap.size, 0, none⟩) 2 2]).run Try.prog (wr.alloc (.cells #[.int .u8 (IntKind.u8.wrap ((m : Int).tmod 256)), .int .u8 (IntKind.u8.wrap (IntKind.i64.wrap ((m : Int) / 256)))] 5)).drew = .ok (.slice a5 (A.length + 2) c5) w5) := by
          show _ = _
          rw [e1, e2]
          simpa [bvals] using hr
        have N5 : Hid (NewB w1.heap.size w5 (.slice a5 (A.length + 2) c5) F') := h5
        have B5 : Hid (Below w1.heap.size w1 w5) := (BK.out.trans (bA.mono BK.out.size)).trans (hg5.below NK.out.row (Nat.le_trans BK.out.size bA.size))
        clear hr h5 hg5 e1 e2 bA
        go_wp2_with fail
        go_region_law (refine step_append_ty (by rfl) (.tmp 25) (.tmp 40) 26 26 (by rfl) _ _ _ (by rfl) (by rfl) R5.out ?_)
        all_goals
          go_wp2
          go_roundw
          case rel => exact ⟨k + 1, a5, c5, by omega, by rw [← HF'.out, LF.out], by go_num, by rw [← HF'.out, LF.out]; exact N5.out, B5.out⟩
          case measure => simp [intOf]; omega
      · obtain rfl : k = s.length := by omega
        rw [List.take_length] at NK ⊢
        have LS : Hid (((s.length : Int) :: cnts s).length ≤ 7) := by
          show _ ≤ _
          rw [List.length_cons, cnts_len]
          omega
        generalize hA : (s.length : Int) :: cnts s = G0 at *
        have ES2 : Hid (PL = G0 ++ numsBy d) := EP.out
        clear hA EP
        go_wp2_with fail
        go_loopw [4, 6] (fun u i w' => ∃ (k : Nat) (a2 : Option Addr) (c2 : Nat), k ≤ d.length ∧ u = .slice a2 (G0 ++ numsBy (d.take k)).length c2 ∧ i = .int .i64 (k : Int) ∧ NewB w1.heap.size w' (.slice a2 (G0 ++ numsBy (d.take k)).length c2) (G0 ++ numsBy (d.take k)) ∧ Below w1.heap.size w1 w') (fun _ i _ => d.length - (intOf i).toNat)
        case atStart => exact ⟨0, a1, c1, by omega, by simp [numsBy], rfl, by simpa [numsBy] using NK.out, BK.out⟩
        case round =>
          obtain ⟨k2, a2, c2, hk2, rfl, rfl, hN, hG⟩ := hrel
          have NK2 : Hid (NewB w1.heap.size wr (.slice a2 (G0 ++ numsBy (d.take k2)).length c2) (G0 ++ numsBy (d.take k2))) := hN
          have GK : Hid (Below w1.heap.size w1 wr) := hG
          clear hN hG x0
          have x1 := (X1.out.keep GK.out).c1
          by_cases hlt2 : (k2 : Int) < (d.length : Int)
          · have L2 : k2 < d.length := by omega
            obtain ⟨b1, o1, rfl, _, cx⟩ := (NA.out _ GK.out).2.at L2
            have ET : Hid (G0 ++ numsBy (d.take (k2 + 1)) = (G0 ++ numsBy (d.take k2)) ++ num8 (d.getD k2 0 + 1000000000000)) := by show _ = _; rw [numsBy_take L2, List.append_assoc]
            have LA : Hid ((G0 ++ numsBy (d.take k2)).length + 8 ≤ 1000000) := by
              have := LS.out
              show _ ≤ _
              rw [List.length_append, numsBy_len, List.length_take]
              omega
            have OKx : ok (d.getD k2 0) = true := List.all_eq_true.1 OKD.out (d.getD k2 0) (by simp [L2])
            obtain ⟨F2, hF2⟩ : ∃ F2, F2 = G0 ++ numsBy (d.take (k2 + 1)) := ⟨_, rfl⟩
            have HF2 : Hid (F2 = G0 ++ numsBy (d.take (k2 + 1))) := hF2
            rw [← hF2] at ET
            clear hF2 L2
            generalize G0 ++ numsBy (d.take k2) = A2 at *
            generalize d.getD k2 0 = x at *
            have xb : -1000000000000 ≤ x ∧ x ≤ 1000000000000 := by unfold ok at OKx; simpa using OKx
            clear OKx
            obtain ⟨y, hy⟩ : ∃ y, y = x + 1000000000000 := ⟨_, rfl⟩
            have y0 : 0 ≤ y := by omega
            have y1 : y ≤ 2000000000000 := by omega
            rw [← hy] at ET
            have HY : Hid (x + 1000000000000 = y) := hy.symm
            clear hy
            go_wp2_with fail
            rw [HY.out]
            go_loopw [4, 8] (fun u i w' => ∃ (j : Nat) (a3 : Option Addr) (c3 : Nat), j ≤ 8 ∧ u = .slice a3 (A2 ++ (num8 y).take j).length c3 ∧ i = .int .i64 (j : Int) ∧ NewB w1.heap.size w' (.slice a3 (A2 ++ (num8 y).take j).length c3) (A2 ++ (num8 y).take j) ∧ Below w1.heap.size w1 w') (fun _ i _ => 8 - (intOf i).toNat)
            case atStart => exact ⟨0, a2, c2, by omega, by simp, rfl, by simpa using NK2.out, GK.out⟩
            case round =>
              obtain ⟨j, a3, c3, hj, rfl, rfl, hN, hb⟩ := hrel
              have NJ : Hid (NewB w1.heap.size wr (.slice a3 (A2 ++ (num8 y).take j).length c3) (A2 ++ (num8 y).take j)) := hN
              have BJ : Hid (Below w1.heap.size w1 wr) := hb
              clear hN hb
              by_cases hjt : (j : Int) < 8
              · have LJ : j < 8 := by omega
                have EJ : A2 ++ (num8 y).take (j + 1) = (A2 ++ (num8 y).take j) ++ [y / 256 ^ j % 256] := by rw [num8_take y LJ, List.append_assoc]
                have LJ2 : (A2 ++ (num8 y).take j).length ≤ 1000000 := by have := LA.out; rw [List.length_append, List.length_take, num8_len]; omega
                obtain ⟨G', hG'⟩ : ∃ G', G' = A2 ++ (num8 y).take (j + 1) := ⟨_, rfl⟩
                have HG' : Hid (G' = A2 ++ (num8 y).take (j + 1)) := hG'
                rw [← hG'] at EJ
                clear hG'
                generalize A2 ++ (num8 y).take j = G at *
                obtain ⟨a5', c5', w5', hr, h5, hb5⟩ := growBs [y / 256 ^ j % 256] NJ.out BJ.out.size (by simp; omega)
                rw [← EJ] at hr h5
                have LG' : Hid (G'.length = G.length + 1) := by show _ = _; rw [EJ]; simp
                rw [LG'.out] at hr h5
                have EP2 : (256 : Int) ^ j = 2 ^ (8 * j) := by rw [Int.pow_mul]; rfl
                have R9 : Hid ((Builtin.append_ #[26, 26] 26 #[.slice a3 G.length c3, .slice (some ⟨wr.heap.size, 0, none⟩) 1 1]).run Try.prog (wr.alloc (.cells #[.int .u8 (y / 2 ^ (8 * j) % 256)] 5)) = .ok (.slice a5' (G.length + 1) c5') w5') := by show _ = _; rw [← EP2]; simpa [bvals] using hr
                have N9 : Hid (NewB w1.heap.size w5' (.slice a5' (G.length + 1) c5') G') := h5
                have B9 : Hid (Below w1.heap.size w1 w5') := BJ.out.trans (hb5.below NJ.out.row BJ.out.size)
                clear hr h5 hb5 EJ EP2
                go_wp2_with (at_builtin; refine wpList_append_ty rfl _ _ 26 26 rfl _ _ _ rfl rfl R9.out ?_)
                go_roundw
                case rel => exact ⟨j + 1, a5', c5', by omega, by rw [← HG'.out, LG'.out], by go_num, by rw [← HG'.out, LG'.out]; exact N9.out, B9.out⟩
                case measure => simp [intOf]; omega
              · obtain rfl : j = 8 := by omega
                have E8 : Hid (A2 ++ (num8 y).take 8 = F2) := by show _ = _; rw [ET.out, List.take_of_length_le (by rw [num8_len]; omega)]
                rw [E8.out] at NJ ⊢
                go_wp2
                go_roundw
                case rel => exact ⟨k2 + 1, a3, c3, by omega, by rw [← HF2.out], by go_num, by rw [← HF2.out]; exact NJ.out, BJ.out⟩
                case measure => simp [intOf]; omega
          · obtain rfl : k2 = d.length := by omega
            have E8 : d.take d.length = d := List.take_length
            rw [E8, ← ES2.out] at NK2 ⊢
            go_wp2
            go_ret2
            exact ⟨_, _, rfl, NK2.out.mono B1.out.size, bTrans B1.out GK.out⟩
end Go.Proofs.Ytonkiipdobpfgaa
