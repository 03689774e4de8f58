/-
  Walks: the specification's l5Back.
-/
import Derived.Test.YtfmheanmkfdjnaiSpecMake1
import Derived.Test.YtfmheanmkfdjnaiGrow
import Derived.Test.YtfmheanmkfdjnaiSpecIndex
namespace Go.Proofs.Ytfmheanmkfdjnai
open Go.RowKit
set_option linter.unusedVariables false
set_option linter.unusedSimpArgs false
theorem rev_take {l : List Int} {k J : Nat} (h : k + (J + 1) = l.length) : l.reverse.take (k + 1) = l.reverse.take k ++ [l.getD J 0] := by
  rw [List.take_succ_eq_append_getElem (by simp; omega)]
  congr 2
  rw [List.getElem_reverse]
  have : l.length - 1 - k = J := by omega
  simp [this, List.getD_eq_getElem?_getD, show J < l.length by omega]
set_option maxRecDepth 20000 in
set_option maxHeartbeats 2000000 in
/-- l5Back: a list in the other order. -/
theorem back_spec {l : List Int} {a : Option Addr} {w : World} (c : Nat) (h : Ints w a l) (hl : l.length ≤ 1000) :
    Calls Try.prog 58 #[.slice a l.length c] w fun e w' => ∃ a' c', e = .returned (.slice a' l.length c') ∧ Piece w.heap.size w'.heap.size w' (.slice a' l.length c') l.reverse ∧ Below w.heap.size w w' := by
  have H : Hid (Ints w a l) := h
  obtain ⟨n, hn⟩ : ∃ n, n = l.length := ⟨_, rfl⟩
  have HN : Hid (n = l.length) := hn
  rw [← hn] at hl ⊢
  clear h hn
  go_enter Try.func58, Try.ntmps58
  go_wp2
  generalize hW : w.alloc (.cells #[] 3) = W0
  have N0 : Hid (NewInts w.heap.size W0 (.slice (some ⟨w.heap.size, 0, none⟩) 0 0) (l.reverse.take 0)) := by rw [← hW]; exact newInts_alloc w [] (Nat.le_refl _) (by simp)
  have B0 : Hid (Below w.heap.size w W0) := by rw [← hW]; exact bAlloc (Below.refl _ _) _
  clear hW
  go_loopw [3, 4] (fun u i w' => ∃ (k j : Nat) (z : Int) (ad : Option Addr) (cd : Nat), k + j = n ∧ z = (j : Int) - 1 ∧ u = .slice ad k cd ∧ i = .int .i64 z ∧ NewInts w.heap.size w' (.slice ad k cd) (l.reverse.take k) ∧ Below w.heap.size w w') (fun _ i _ => (intOf i + 1).toNat)
  case atStart => exact ⟨0, n, _, _, _, by omega, rfl, rfl, rfl, N0.out, B0.out⟩
  case round =>
    obtain ⟨k, j, z, ad, cd, hkj, hz, rfl, rfl, hN, hB⟩ := hrel
    have NK : Hid (NewInts w.heap.size wr (.slice ad k cd) (l.reverse.take k)) := hN
    have BK : Hid (Below w.heap.size w wr) := hB
    clear hN hB N0 B0
    by_cases hj : 0 ≤ z
    · obtain ⟨J, rfl⟩ : ∃ J : Nat, z = (J : Int) := ⟨z.toNat, by omega⟩
      obtain rfl : j = J + 1 := by omega
      clear hz
      have hjn : (J : Int) < (n : Int) := by omega
      obtain ⟨b1, o1, rfl, hb1, c1⟩ := (H.out.keep BK.out).at (k := J) (by have := HN.out; omega)
      have ET : Hid (l.reverse.take (k + 1) = l.reverse.take k ++ [l.getD J 0]) := rev_take (by have := HN.out; omega)
      have LT : Hid ((l.reverse.take k).length = k) := by have := HN.out; show _ = _; simp; omega
      generalize l.getD J 0 = x at *
      obtain ⟨a5, c5, w5, hr, h5, hb5⟩ := grow1 x NK.out BK.out.size (by rw [LT.out]; omega)
      rw [LT.out] at hr h5
      rw [← ET.out] at h5
      have R5 : Hid ((Builtin.append_ #[24, 24] 24 #[.slice ad k cd, .slice (some ⟨wr.heap.size, 0, none⟩) 1 1]).run Try.prog (wr.alloc (.cells #[.int .i64 x] 3)) = .ok (.slice a5 (k + 1) c5) w5) := hr
      have N5 : Hid (NewInts w.heap.size w5 (.slice a5 (k + 1) c5) (l.reverse.take (k + 1))) := h5
      have B5 : Hid (Below w.heap.size w w5) := BK.out.trans hb5
      clear hr h5 hb5
      go_wp2_with (at_builtin; refine wpList_append_ty rfl _ _ 24 24 rfl _ _ _ rfl rfl R5.out ?_)
      go_roundw
      case rel => exact ⟨k + 1, J, _, _, _, by omega, rfl, rfl, by go_num, N5.out, B5.out⟩
      case measure => simp [intOf]
    · obtain rfl : j = 0 := by omega
      obtain rfl : k = n := by omega
      go_wp2
      go_ret
      refine ⟨_, _, rfl, ?_, BK.out⟩
      have := NK.out.piece
      rw [List.take_of_length_le (by have := HN.out; simp; omega)] at this
      exact this
end Go.Proofs.Ytfmheanmkfdjnai
namespace Go.Proofs.Ytfmheanmkfdjnai
open Go.RowKit
set_option linter.unusedVariables false
set_option linter.unusedSimpArgs false
set_option maxRecDepth 20000 in
set_option maxHeartbeats 4000000 in
/-- Flip, where the places lie in bounds. -/
theorem flip_walk {s d : List Int} {w : World} {v : Value} (h : ArrI w v s d) (hd : d.length ≤ 1048576)
    (hp : arrOk s d = true → ∀ i : Nat, i < d.length → 0 ≤ placeV s (indexV s.reverse (i : Int)).reverse ∧ placeV s (indexV s.reverse (i : Int)).reverse < (d.length : Int) ∧ (indexV s.reverse (i : Int)).length ≤ 1000) :
    Calls Try.prog 21 #[v] w fun e w' => ∃ v', e = .returned (.tuple #[v', .int .i64 (flipR s d).1]) ∧ Arr w.heap.size w'.heap.size w' v' (flipR s d).2.1 (flipR s d).2.2 ∧ Below w.heap.size w w' := by
  have H : Hid (ArrI w v s d) := h
  obtain ⟨a, c, b, f, rfl, h1, h2, g1, _⟩ := h
  have H1 : Hid (Ints w a s) := h1
  have H2 : Hid (Ints w b d) := h2
  have HD : Hid (d.length ≤ 1048576) := hd
  by_cases ho : arrOk s d = true
  · have HO : Hid (arrOk s d = true) := ho
    have HP := hp ho
    have ER : flipR s d = (0, s.reverse, (List.range d.length).map (fun (i : Nat) => d.getD (placeV s (indexV s.reverse (i : Int)).reverse).toNat 0)) := by unfold flipR flipD; rw [okC_good ho]; rfl
    have hd3 : d.length ≤ 300 := by have := arrOk_len ho; omega
    have HSL : Hid (s.length ≤ 1000) := by have := (sizeV_ok (arrOk_shape ho)).1; show _ ≤ _; omega
    rw [ER]
    have HPH : Hid (∀ i : Nat, i < d.length → 0 ≤ placeV s (indexV s.reverse (i : Int)).reverse ∧ placeV s (indexV s.reverse (i : Int)).reverse < (d.length : Int) ∧ (indexV s.reverse (i : Int)).length ≤ 1000) := HP
    obtain ⟨SR, hSR⟩ : ∃ SR, SR = s.reverse := ⟨_, rfl⟩
    have HSR : Hid (SR = s.reverse) := hSR
    have HSRL : Hid (SR.length = s.length) := by show _ = _; rw [hSR]; simp
    rw [← hSR] at HPH ⊢
    clear ER ho h1 h2 hd g1 hp HP hSR
    go_enter Try.func21, Try.ntmps21
    go_wp2_with fail
    refine (arrOk_spec (H.out.keep (bAlloc (bAlloc (Below.refl _ _) _) _)) HD.out).mono ?_
    rintro r w1 ⟨rfl, hb⟩
    have HB1 : Hid (Below w.heap.size w w1) := bTrans (bAlloc (bAlloc (Below.refl _ _) _) _) hb
    have X1 : Hid (Box w1 w.heap.size (.slice a s.length c) (.slice b d.length f) 26) := ((box_new w _ _ _).keep (bAlloc (Below.refl _ _) _)).keep hb
    have Y1 : Hid (Box w1 (w.heap.size + 1) (.slice none 0 0) (.slice none 0 0) 26) := (box_new2 w _ _ _ _).keep hb
    have x0 := X1.out.c0
    have x1 := X1.out.c1
    have L1 : Hid (w.heap.size + 1 < w1.heap.size) := Y1.out.lt
    clear hb
    rw [HO.out]
    go_wp2_with fail
    refine (back_spec c (H1.out.keep HB1.out) HSL.out).mono ?_
    rintro r w2 ⟨a2, c2, rfl, hp2, hb⟩
    have P2 : Hid (Piece w1.heap.size w2.heap.size w2 (.slice a2 s.length c2) SR) := by show Piece _ _ _ _ _; rw [HSR.out]; exact hp2
    have I2 : Hid (Ints w2 a2 SR) := by
      obtain ⟨q1, q2, q3, q4⟩ := P2.out.ints
      show Ints _ _ _
      rw [(Value.slice.inj q3).1]; exact q4
    have HB2 : Hid (Below w1.heap.size w1 w2) := hb
    have X2 : Hid (Box w2 w.heap.size (.slice a s.length c) (.slice b d.length f) 26) := X1.out.keep hb
    have Y2 : Hid (Box w2 (w.heap.size + 1) (.slice none 0 0) (.slice none 0 0) 26) := Y1.out.keep hb
    clear hb hp2 x0 x1
    go_wp2
    generalize hW : w2.alloc (.cells #[.slice a2 s.length c2, .slice none 0 0] 26) = W3
    have O3 : Hid (OutAt w2.heap.size w2 W3 (.slice a2 s.length c2) none 0 0 ((List.range 0).map (fun (i : Nat) => d.getD (placeV s (indexV SR (i : Int)).reverse).toNat 0))) := by rw [← hW]; exact outAt_new
    clear hW
    go_loopw [5] (fun i w' => ∃ (k : Nat) (ad : Option Addr) (cd : Nat), k ≤ d.length ∧ i = .int .i64 (k : Int) ∧ OutAt w2.heap.size w2 w' (.slice a2 s.length c2) ad cd k ((List.range k).map (fun (i : Nat) => d.getD (placeV s (indexV SR (i : Int)).reverse).toNat 0))) (fun i _ => d.length - (intOf i).toNat)
    case atStart => exact ⟨0, _, _, by omega, rfl, O3.out⟩
    case round =>
      obtain ⟨k, ad, cd, hk, rfl, hO⟩ := hrel
      have OK : Hid (OutAt w2.heap.size w2 wr (.slice a2 s.length c2) ad cd k ((List.range k).map (fun (i : Nat) => d.getD (placeV s (indexV SR (i : Int)).reverse).toNat 0))) := hO
      clear hO O3
      have XR : Hid (Box wr w.heap.size (.slice a s.length c) (.slice b d.length f) 26) := X2.out.keep OK.out.below
      have BWr : Hid (Below w.heap.size w wr) := bTrans (bTrans HB1.out HB2.out) OK.out.below
      have x0 := XR.out.c0
      have x1 := XR.out.c1
      have g0 := OK.out.box.c0
      have gg := OK.out.box.c1
      by_cases hlt : (k : Int) < (d.length : Int)
      · obtain ⟨e1, e2, e3⟩ := HPH.out k (by omega)
        have EM : Hid ((List.range k).map (fun (i : Nat) => d.getD (placeV s (indexV SR (i : Int)).reverse).toNat 0) ++ [d.getD (placeV s (indexV SR (k : Int)).reverse).toNat 0] = (List.range (k + 1)).map (fun (i : Nat) => d.getD (placeV s (indexV SR (i : Int)).reverse).toNat 0)) := by show _ = _; rw [List.range_succ]; simp
        have HIX : Hid (∀ W, Ints W a2 SR → Calls Try.prog 60 #[.slice a2 s.length c2, .int .i64 (k : Int)] W fun r w' => ∃ ai ci, r = .returned (.slice ai (indexV SR (k : Int)).length ci) ∧ Ints w' ai (indexV SR (k : Int)) ∧ Below W.heap.size W w') := by
          intro W hi
          have := index_spec (k : Int) c2 hi
          rw [HSRL.out] at this
          refine this.mono ?_
          rintro r w' ⟨rfl, rfl⟩
          exact ⟨_, _, rfl, ints_new W _ _, bAlloc (Below.refl _ _) _⟩
        have HBK : Hid (∀ W ai ci, Ints W ai (indexV SR (k : Int)) → Calls Try.prog 58 #[.slice ai (indexV SR (k : Int)).length ci] W fun r w' => ∃ a' c', r = .returned (.slice a' (indexV SR (k : Int)).length c') ∧ Ints w' a' (indexV SR (k : Int)).reverse ∧ Below W.heap.size W w') := by
          intro W ai ci hi
          refine (back_spec ci hi e3).mono ?_
          rintro r w' ⟨a', c', rfl, hp, hb⟩
          refine ⟨a', c', rfl, ?_, hb⟩
          obtain ⟨q1, q2, q3, q4⟩ := hp.ints
          rw [(Value.slice.inj q3).1]; exact q4
        have HPL : Hid (∀ W ai ci, Ints W a s → Ints W ai (indexV SR (k : Int)).reverse → Calls Try.prog 59 #[.slice a s.length c, .slice ai (indexV SR (k : Int)).length ci] W fun r w' => r = .returned (.int .i64 (placeV s (indexV SR (k : Int)).reverse)) ∧ Below W.heap.size W w') := by
          intro W ai ci hi hj
          have := place_spec c ci hi hj
          rw [List.length_reverse] at this
          refine this.mono ?_
          rintro r w' ⟨rfl, j, rfl⟩
          exact ⟨rfl, bDrewN (Below.refl _ _) j⟩
        obtain ⟨ix, hix⟩ : ∃ ix, indexV SR (k : Int) = ix := ⟨_, rfl⟩
        rw [hix] at HIX HBK HPL e1 e2 e3
        obtain ⟨PN, hPN⟩ : ∃ PN : Nat, placeV s ix.reverse = (PN : Int) := ⟨(placeV s ix.reverse).toNat, by omega⟩
        rw [hPN] at HPL e1 e2
        have EM2 : Hid ((List.range k).map (fun (i : Nat) => d.getD (placeV s (indexV SR (i : Int)).reverse).toNat 0) ++ [d.getD PN 0] = (List.range (k + 1)).map (fun (i : Nat) => d.getD (placeV s (indexV SR (i : Int)).reverse).toNat 0)) := by have q := EM.out; rw [hix, hPN, Int.toNat_natCast] at q; exact q
        clear EM
        obtain ⟨b1, o1, rfl, hb1, c1⟩ := H2.out.at (k := PN) (by omega)
        have CC : Hid (∀ W, Below w.heap.size w W → W.cell? ⟨b1, o1 + PN, none⟩ = some (.int .i64 (d.getD PN 0))) := fun W h => (h.cell (p := ⟨b1, o1 + PN, none⟩) hb1).trans c1
        have hk3 : k < 1048576 := by omega
        obtain ⟨x, hx⟩ : ∃ x, d.getD PN 0 = x := ⟨_, rfl⟩
        rw [hx] at CC EM2
        clear hPN c1 hix hx
        have IS : Hid (∀ W, Below w.heap.size w W → Ints W a s) := fun W h => H1.out.keep h
        have ISR : Hid (∀ W, Below w2.heap.size w2 W → Ints W a2 SR) := fun W h => I2.out.keep h
        go_wp2_with fail
        have cx0 := CC.out _ BWr.out
        refine wp_region_noPanic ?_
        refine wp_region_held_drew (S := (fun w' => w'.cell? ⟨w.heap.size, 0, none⟩ = some (.slice a s.length c) ∧ w'.cell? ⟨w.heap.size, 1, none⟩ = some (.slice (some ⟨b1, o1, none⟩) d.length f) ∧ w'.cell? ⟨w2.heap.size, 0, none⟩ = some (.slice a2 s.length c2) ∧ w'.cell? ⟨b1, o1 + PN, none⟩ = some (.int .i64 x))) (by kernel_rfl) ?_ (fun hHeld0 => ?_)
        · (try dsimp only); (first | (refine ⟨?_, ?_, ?_, ?_⟩ <;> (first | with_reducible assumption | simp only [*])) | exact ⟨x0, x1, g0, cx0⟩)
        refine wpAnyH_take (i := 0) (oi := _) (v := ?_) rfl (by kernel_rfl) (by kernel_rfl) (by kernel_rfl) (fun _ _ _ h => h) (Or.inl ⟨by rfl, ?_⟩) (by assumption) ?_
        rotate_left
        · intro wS hSw; (try dsimp only at hSw); go_simp; (try with_reducible rfl)
        try simp only [Act.put, List.setIfInBounds_toArray, List.set_cons_zero, List.set_cons_succ]
        refine wpAnyH_take (i := 2) (oi := _) (v := ?_) rfl (by kernel_rfl) (by kernel_rfl) (by kernel_rfl) (fun _ _ _ h => h) (Or.inl ⟨by rfl, ?_⟩) (by assumption) ?_
        rotate_left
        · intro wS hSw; (try dsimp only at hSw); go_simp; (try with_reducible rfl)
        try simp only [Act.put, List.setIfInBounds_toArray, List.set_cons_zero, List.set_cons_succ]
        refine wpAnyH_take (i := 3) (oi := _) (v := ?_) rfl (by kernel_rfl) (by kernel_rfl) (by kernel_rfl) (fun _ _ _ h => h) (Or.inl ⟨by rfl, ?_⟩) (by assumption) ?_
        rotate_left
        · intro wS hSw; (try dsimp only at hSw); go_simp; (try with_reducible rfl)
        try simp only [Act.put, List.setIfInBounds_toArray, List.set_cons_zero, List.set_cons_succ]
        refine wpAnyH_take (i := 4) (oi := _) (v := ?_) rfl (by kernel_rfl) (by kernel_rfl) (by kernel_rfl) (fun _ _ _ h => h) (Or.inl ⟨by rfl, ?_⟩) (by assumption) ?_
        rotate_left
        · intro wS hSw; (try dsimp only at hSw); go_simp; (try with_reducible rfl)
        try simp only [Act.put, List.setIfInBounds_toArray, List.set_cons_zero, List.set_cons_succ]
        refine wpAnyH_take (i := 5) (oi := _) (v := ?_) rfl (by kernel_rfl) (by kernel_rfl) (by kernel_rfl) (fun _ _ _ h => h) (Or.inl ⟨by rfl, ?_⟩) (by assumption) ?_
        rotate_left
        · intro wS hSw; (try dsimp only at hSw); go_simp; (try with_reducible rfl)
        try simp only [Act.put, List.setIfInBounds_toArray, List.set_cons_zero, List.set_cons_succ]
        refine wpAnyH_take (i := 6) (oi := _) (v := ?_) rfl (by kernel_rfl) (by kernel_rfl) (by kernel_rfl) (fun _ _ _ h => h) (Or.inl ⟨by rfl, ?_⟩) (by assumption) ?_
        rotate_left
        · intro wS hSw; (try dsimp only at hSw); go_simp; (try with_reducible rfl)
        try simp only [Act.put, List.setIfInBounds_toArray, List.set_cons_zero, List.set_cons_succ]
        refine wpAnyH_take (i := 7) (oi := _) (v := ?_) rfl (by kernel_rfl) (by kernel_rfl) (by kernel_rfl) (fun _ _ _ h => h) (Or.inl ⟨by rfl, ?_⟩) (by assumption) ?_
        rotate_left
        · intro wS hSw; (try dsimp only at hSw); go_simp; (try with_reducible rfl)
        try simp only [Act.put, List.setIfInBounds_toArray, List.set_cons_zero, List.set_cons_succ]
        refine wpAnyH_take (i := 8) (oi := _) (v := ?_) rfl (by kernel_rfl) (by kernel_rfl) (by kernel_rfl) (fun _ _ _ h => h) (Or.inl ⟨by rfl, ?_⟩) (by assumption) ?_
        rotate_left
        · intro wS hSw; (try dsimp only at hSw); go_simp; (try with_reducible rfl)
        try simp only [Act.put, List.setIfInBounds_toArray, List.set_cons_zero, List.set_cons_succ]
        refine wpAnyH_ready (rs := [1, 9]) (by kernel_rfl) (by simp) ?_
        refine AllReadyH.cons (o := _) rfl (fun K hK => ?_) ?_
        · skip
          go_simp
          refine hK.out _ _ ?_ (fun hHeld1 => ?_)
          · (try dsimp only); (first | (refine ⟨?_, ?_, ?_, ?_⟩ <;> (first | with_reducible assumption | simp only [*])) | exact ⟨x0, x1, g0, cx0⟩)
          clear hK K hHeld0
          try simp only [Act.put, List.setIfInBounds_toArray, List.set_cons_zero, List.set_cons_succ]
          refine wpAnyH_ready (rs := [9]) (by kernel_rfl) (by simp) ?_
          refine AllReadyH.cons (o := _) rfl (fun K hK => ?_) AllReadyH.nil
          go_simp
          (go_at_call 60; refine (HIX.out _ (ISR.out _ (OK.out.below.trans (((Below.refl wr.heap.size wr).drew).mono (Nat.le_of_lt OK.out.box.lt))))).mono ?_; rintro r wi ⟨ai, ci, rfl, ii, hb⟩; have BI : Hid (Below wr.heap.size wr wi) := bTrans ((Below.refl wr.heap.size wr).drew) hb; have II : Hid (Ints wi ai ix) := ii; have p0 := (XR.out.keep BI.out).c0; have p1 := (XR.out.keep BI.out).c1; have p2 := (OK.out.box.keep BI.out).c0; have p3 := (OK.out.box.keep BI.out).c1; have p4 := CC.out _ (bTrans BWr.out BI.out); clear ii hb)
          try go_wp2_with fail
          refine hK.out _ _ ?_ (fun hHeld2 => ?_)
          · (try dsimp only); (first | (refine ⟨?_, ?_, ?_, ?_⟩ <;> (first | with_reducible assumption | simp only [*])) | exact ⟨x0, x1, g0, cx0⟩)
          clear hK K hHeld1
          try simp only [Act.put, List.setIfInBounds_toArray, List.set_cons_zero, List.set_cons_succ]
          refine wpAnyH_ready (rs := [10]) (by kernel_rfl) (by simp) ?_
          refine AllReadyH.cons (o := _) rfl (fun K hK => ?_) AllReadyH.nil
          go_simp
          (go_at_call 58; refine (HBK.out _ _ _ II.out).mono ?_; rintro r wb ⟨ab, cb, rfl, ib, hb⟩; have BB : Hid (Below wr.heap.size wr wb) := bTrans BI.out hb; have IB : Hid (Ints wb ab ix.reverse) := ib; have q0 := (XR.out.keep BB.out).c0; have q1 := (XR.out.keep BB.out).c1; have q2 := (OK.out.box.keep BB.out).c0; have q3 := (OK.out.box.keep BB.out).c1; have q4 := CC.out _ (bTrans BWr.out BB.out); clear ib hb)
          try go_wp2_with fail
          refine hK.out _ _ ?_ (fun hHeld3 => ?_)
          · (try dsimp only); (first | (refine ⟨?_, ?_, ?_, ?_⟩ <;> (first | with_reducible assumption | simp only [*])) | exact ⟨x0, x1, g0, cx0⟩)
          clear hK K hHeld2
          try simp only [Act.put, List.setIfInBounds_toArray, List.set_cons_zero, List.set_cons_succ]
          refine wpAnyH_ready (rs := [11]) (by kernel_rfl) (by simp) ?_
          refine AllReadyH.cons (o := _) rfl (fun K hK => ?_) AllReadyH.nil
          go_simp
          (go_at_call 59; refine (HPL.out _ _ _ (IS.out _ (bTrans BWr.out BB.out)) IB.out).mono ?_; rintro r wp ⟨rfl, hb⟩; have BP : Hid (Below wr.heap.size wr wp) := bTrans BB.out hb; have r0 := (XR.out.keep BP.out).c0; have r1 := (XR.out.keep BP.out).c1; have r2 := (OK.out.box.keep BP.out).c0; have r3 := (OK.out.box.keep BP.out).c1; have cx := CC.out _ (bTrans BWr.out BP.out); obtain ⟨a7, c7, w7, hr7, hb7, ho7⟩ := (OK.out.keep BP.out).grow1 hk3 x; have R7 : Hid ((Builtin.append_ #[24, 24] 24 #[.slice ad k cd, .slice (some ⟨wp.heap.size, 0, none⟩) 1 1]).run Try.prog (wp.alloc (.cells #[.int .i64 x] 3)) = .ok (.slice a7 (k + 1) c7) w7) := hr7; rw [EM2.out] at ho7; have O7 : Hid (OutAt w2.heap.size w2 (w7.setCell ⟨w2.heap.size, 1, none⟩ (.slice a7 (k + 1) c7)) (.slice a2 s.length c2) a7 c7 (k + 1) ((List.range (k + 1)).map (fun (i : Nat) => d.getD (placeV s (indexV SR (i : Int)).reverse).toNat 0))) := ho7; have n1 := hb7.c1; have n2 : w7.frozen? ⟨w2.heap.size, 1, none⟩ = false := free_at hb7 1; have n0 := hb7.c0; have t0 := (XR.out.keep (bAlloc BP.out (.cells #[.int .i64 x] 3))).c0; have t1 := (XR.out.keep (bAlloc BP.out (.cells #[.int .i64 x] 3))).c1; have t2 := (OK.out.box.keep (bAlloc BP.out (.cells #[.int .i64 x] 3))).c0; have t3 := (OK.out.box.keep (bAlloc BP.out (.cells #[.int .i64 x] 3))).c1; have XS : Hid (Box (w7.setCell ⟨w2.heap.size, 1, none⟩ (.slice a7 (k + 1) c7)) w.heap.size (.slice a s.length c) (.slice (some ⟨b1, o1, none⟩) d.length f) 26) := X2.out.keep ho7.below; have v0 := XS.out.c0; have v1 := XS.out.c1; have v2 := ho7.box.c0; have X7 : Hid (Box w7 w.heap.size (.slice a s.length c) (.slice (some ⟨b1, o1, none⟩) d.length f) 26) := (by have q := XS.out; unfold Box at q; show w7.heap[_]? = _; rw [← (win_setCell w7 w2.heap.size 1 (.slice a7 (k + 1) c7)).block w.heap.size (by have := hb7.lt; have := X2.out.lt; omega) (.inl X2.out.lt)]; exact q); have u0 := X7.out.c0; have u1 := X7.out.c1; have t4 := CC.out _ (bTrans BWr.out (bAlloc BP.out (.cells #[.int .i64 x] 3))); have v4 := CC.out _ (bTrans (bTrans HB1.out HB2.out) ho7.below); have u4 : w7.cell? ⟨b1, o1 + PN, none⟩ = some (.int .i64 x) := (by have q := v4; rw [World.cell?_of_block (w := w7) (w' := w7.setCell ⟨w2.heap.size, 1, none⟩ (.slice a7 (k + 1) c7)) (a := ⟨b1, o1 + PN, none⟩) ((win_setCell w7 w2.heap.size 1 (.slice a7 (k + 1) c7)).block b1 (by have := hb7.lt; have := X2.out.lt; omega) (.inl (by have := X2.out.lt; omega)))] at q; exact q); clear hb hr7 hb7 ho7)
          try go_wp2_with fail
          refine hK.out _ _ ?_ (fun hHeld4 => ?_)
          · (try dsimp only); (first | (refine ⟨?_, ?_, ?_, ?_⟩ <;> (first | with_reducible assumption | simp only [*])) | exact ⟨x0, x1, g0, cx0⟩)
          clear hK K hHeld3
          try simp only [Act.put, List.setIfInBounds_toArray, List.set_cons_zero, List.set_cons_succ]
          refine wpAnyH_take (i := 12) (oi := _) (v := ?_) rfl (by kernel_rfl) (by kernel_rfl) (by kernel_rfl) (fun _ _ _ h => h) (Or.inl ⟨by rfl, ?_⟩) (by assumption) ?_
          rotate_left
          · intro wS hSw; (try dsimp only at hSw); go_simp; (try with_reducible rfl)
          try simp only [Act.put, List.setIfInBounds_toArray, List.set_cons_zero, List.set_cons_succ]
          refine wpAnyH_take (i := 13) (oi := _) (v := ?_) rfl (by kernel_rfl) (by kernel_rfl) (by kernel_rfl) (fun _ _ _ h => h) (Or.inl ⟨by rfl, ?_⟩) (by assumption) ?_
          rotate_left
          · intro wS hSw; (try dsimp only at hSw); go_simp; (try with_reducible rfl)
          try simp only [Act.put, List.setIfInBounds_toArray, List.set_cons_zero, List.set_cons_succ]
          refine wpAnyH_ready (rs := [14]) (by kernel_rfl) (by simp) ?_
          refine AllReadyH.cons (o := _) rfl (fun K hK => ?_) AllReadyH.nil
          go_simp
          refine hK.out _ _ ?_ (fun hHeld5 => ?_)
          · (try dsimp only); (first | (refine ⟨?_, ?_, ?_, ?_⟩ <;> (first | with_reducible assumption | simp only [*])) | exact ⟨x0, x1, g0, cx0⟩)
          clear hK K hHeld4
          try simp only [Act.put, List.setIfInBounds_toArray, List.set_cons_zero, List.set_cons_succ]
          refine wpAnyH_ready (rs := [15]) (by kernel_rfl) (by simp) ?_
          refine AllReadyH.cons (o := _) rfl (fun K hK => ?_) AllReadyH.nil
          (refine step_append_ty (by rfl) (.tmp 22) (.tmp 35) 24 24 (by rfl) (.slice ad k cd) (.slice (some ⟨wp.heap.size, 0, none⟩) 1 1) _ (by rfl) (by rfl) R7.out ?_)
          refine hK.out _ _ ?_ (fun hHeld6 => ?_)
          · (try dsimp only); (first | (refine ⟨?_, ?_, ?_, ?_⟩ <;> (first | with_reducible assumption | simp only [*])) | exact ⟨x0, x1, g0, cx0⟩)
          clear hK K hHeld5
          try simp only [Act.put, List.setIfInBounds_toArray, List.set_cons_zero, List.set_cons_succ]
          refine wpAnyH_take (i := 16) (oi := _) (v := ?_) rfl (by kernel_rfl) (by kernel_rfl) (by kernel_rfl) (fun _ _ _ h => h) (Or.inl ⟨by rfl, ?_⟩) (by assumption) ?_
          rotate_left
          · intro wS hSw; (try dsimp only at hSw); go_simp; (try with_reducible rfl)
          try simp only [Act.put, List.setIfInBounds_toArray, List.set_cons_zero, List.set_cons_succ]
          refine wpAnyH_ready (rs := [17]) (by kernel_rfl) (by simp) ?_
          refine AllReadyH.cons (o := _) rfl (fun K hK => ?_) AllReadyH.nil
          go_simp
          refine hK.out _ _ ?_ (fun hHeld7 => ?_)
          · (try dsimp only); (first | (refine ⟨?_, ?_, ?_, ?_⟩ <;> (first | with_reducible assumption | simp only [*])) | exact ⟨x0, x1, g0, cx0⟩)
          clear hK K hHeld6
          try simp only [Act.put, List.setIfInBounds_toArray, List.set_cons_zero, List.set_cons_succ]
          refine wpAnyH_done (by kernel_rfl) ?_ _
          refine NoPanic.normal ?_
          go_wp2
          go_roundw
          case rel => exact ⟨k + 1, _, _, by omega, by go_num, O7.out⟩
          case measure => simp [intOf]; omega
        refine AllReadyH.cons (o := _) rfl (fun K hK => ?_) AllReadyH.nil
        go_simp
        (go_at_call 60; refine (HIX.out _ (ISR.out _ (OK.out.below.trans (((Below.refl wr.heap.size wr).drew).mono (Nat.le_of_lt OK.out.box.lt))))).mono ?_; rintro r wi ⟨ai, ci, rfl, ii, hb⟩; have BI : Hid (Below wr.heap.size wr wi) := bTrans ((Below.refl wr.heap.size wr).drew) hb; have II : Hid (Ints wi ai ix) := ii; have p0 := (XR.out.keep BI.out).c0; have p1 := (XR.out.keep BI.out).c1; have p2 := (OK.out.box.keep BI.out).c0; have p3 := (OK.out.box.keep BI.out).c1; have p4 := CC.out _ (bTrans BWr.out BI.out); clear ii hb)
        try go_wp2_with fail
        refine hK.out _ _ ?_ (fun hHeld8 => ?_)
        · (try dsimp only); (first | (refine ⟨?_, ?_, ?_, ?_⟩ <;> (first | with_reducible assumption | simp only [*])) | exact ⟨x0, x1, g0, cx0⟩)
        clear hK K hHeld0
        try simp only [Act.put, List.setIfInBounds_toArray, List.set_cons_zero, List.set_cons_succ]
        refine wpAnyH_ready (rs := [1, 10]) (by kernel_rfl) (by simp) ?_
        refine AllReadyH.cons (o := _) rfl (fun K hK => ?_) ?_
        · skip
          go_simp
          refine hK.out _ _ ?_ (fun hHeld9 => ?_)
          · (try dsimp only); (first | (refine ⟨?_, ?_, ?_, ?_⟩ <;> (first | with_reducible assumption | simp only [*])) | exact ⟨x0, x1, g0, cx0⟩)
          clear hK K hHeld8
          try simp only [Act.put, List.setIfInBounds_toArray, List.set_cons_zero, List.set_cons_succ]
          refine wpAnyH_ready (rs := [10]) (by kernel_rfl) (by simp) ?_
          refine AllReadyH.cons (o := _) rfl (fun K hK => ?_) AllReadyH.nil
          go_simp
          (go_at_call 58; refine (HBK.out _ _ _ II.out).mono ?_; rintro r wb ⟨ab, cb, rfl, ib, hb⟩; have BB : Hid (Below wr.heap.size wr wb) := bTrans BI.out hb; have IB : Hid (Ints wb ab ix.reverse) := ib; have q0 := (XR.out.keep BB.out).c0; have q1 := (XR.out.keep BB.out).c1; have q2 := (OK.out.box.keep BB.out).c0; have q3 := (OK.out.box.keep BB.out).c1; have q4 := CC.out _ (bTrans BWr.out BB.out); clear ib hb)
          try go_wp2_with fail
          refine hK.out _ _ ?_ (fun hHeld10 => ?_)
          · (try dsimp only); (first | (refine ⟨?_, ?_, ?_, ?_⟩ <;> (first | with_reducible assumption | simp only [*])) | exact ⟨x0, x1, g0, cx0⟩)
          clear hK K hHeld9
          try simp only [Act.put, List.setIfInBounds_toArray, List.set_cons_zero, List.set_cons_succ]
          refine wpAnyH_ready (rs := [11]) (by kernel_rfl) (by simp) ?_
          refine AllReadyH.cons (o := _) rfl (fun K hK => ?_) AllReadyH.nil
          go_simp
          (go_at_call 59; refine (HPL.out _ _ _ (IS.out _ (bTrans BWr.out BB.out)) IB.out).mono ?_; rintro r wp ⟨rfl, hb⟩; have BP : Hid (Below wr.heap.size wr wp) := bTrans BB.out hb; have r0 := (XR.out.keep BP.out).c0; have r1 := (XR.out.keep BP.out).c1; have r2 := (OK.out.box.keep BP.out).c0; have r3 := (OK.out.box.keep BP.out).c1; have cx := CC.out _ (bTrans BWr.out BP.out); obtain ⟨a7, c7, w7, hr7, hb7, ho7⟩ := (OK.out.keep BP.out).grow1 hk3 x; have R7 : Hid ((Builtin.append_ #[24, 24] 24 #[.slice ad k cd, .slice (some ⟨wp.heap.size, 0, none⟩) 1 1]).run Try.prog (wp.alloc (.cells #[.int .i64 x] 3)) = .ok (.slice a7 (k + 1) c7) w7) := hr7; rw [EM2.out] at ho7; have O7 : Hid (OutAt w2.heap.size w2 (w7.setCell ⟨w2.heap.size, 1, none⟩ (.slice a7 (k + 1) c7)) (.slice a2 s.length c2) a7 c7 (k + 1) ((List.range (k + 1)).map (fun (i : Nat) => d.getD (placeV s (indexV SR (i : Int)).reverse).toNat 0))) := ho7; have n1 := hb7.c1; have n2 : w7.frozen? ⟨w2.heap.size, 1, none⟩ = false := free_at hb7 1; have n0 := hb7.c0; have t0 := (XR.out.keep (bAlloc BP.out (.cells #[.int .i64 x] 3))).c0; have t1 := (XR.out.keep (bAlloc BP.out (.cells #[.int .i64 x] 3))).c1; have t2 := (OK.out.box.keep (bAlloc BP.out (.cells #[.int .i64 x] 3))).c0; have t3 := (OK.out.box.keep (bAlloc BP.out (.cells #[.int .i64 x] 3))).c1; have XS : Hid (Box (w7.setCell ⟨w2.heap.size, 1, none⟩ (.slice a7 (k + 1) c7)) w.heap.size (.slice a s.length c) (.slice (some ⟨b1, o1, none⟩) d.length f) 26) := X2.out.keep ho7.below; have v0 := XS.out.c0; have v1 := XS.out.c1; have v2 := ho7.box.c0; have X7 : Hid (Box w7 w.heap.size (.slice a s.length c) (.slice (some ⟨b1, o1, none⟩) d.length f) 26) := (by have q := XS.out; unfold Box at q; show w7.heap[_]? = _; rw [← (win_setCell w7 w2.heap.size 1 (.slice a7 (k + 1) c7)).block w.heap.size (by have := hb7.lt; have := X2.out.lt; omega) (.inl X2.out.lt)]; exact q); have u0 := X7.out.c0; have u1 := X7.out.c1; have t4 := CC.out _ (bTrans BWr.out (bAlloc BP.out (.cells #[.int .i64 x] 3))); have v4 := CC.out _ (bTrans (bTrans HB1.out HB2.out) ho7.below); have u4 : w7.cell? ⟨b1, o1 + PN, none⟩ = some (.int .i64 x) := (by have q := v4; rw [World.cell?_of_block (w := w7) (w' := w7.setCell ⟨w2.heap.size, 1, none⟩ (.slice a7 (k + 1) c7)) (a := ⟨b1, o1 + PN, none⟩) ((win_setCell w7 w2.heap.size 1 (.slice a7 (k + 1) c7)).block b1 (by have := hb7.lt; have := X2.out.lt; omega) (.inl (by have := X2.out.lt; omega)))] at q; exact q); clear hb hr7 hb7 ho7)
          try go_wp2_with fail
          refine hK.out _ _ ?_ (fun hHeld11 => ?_)
          · (try dsimp only); (first | (refine ⟨?_, ?_, ?_, ?_⟩ <;> (first | with_reducible assumption | simp only [*])) | exact ⟨x0, x1, g0, cx0⟩)
          clear hK K hHeld10
          try simp only [Act.put, List.setIfInBounds_toArray, List.set_cons_zero, List.set_cons_succ]
          refine wpAnyH_take (i := 12) (oi := _) (v := ?_) rfl (by kernel_rfl) (by kernel_rfl) (by kernel_rfl) (fun _ _ _ h => h) (Or.inl ⟨by rfl, ?_⟩) (by assumption) ?_
          rotate_left
          · intro wS hSw; (try dsimp only at hSw); go_simp; (try with_reducible rfl)
          try simp only [Act.put, List.setIfInBounds_toArray, List.set_cons_zero, List.set_cons_succ]
          refine wpAnyH_take (i := 13) (oi := _) (v := ?_) rfl (by kernel_rfl) (by kernel_rfl) (by kernel_rfl) (fun _ _ _ h => h) (Or.inl ⟨by rfl, ?_⟩) (by assumption) ?_
          rotate_left
          · intro wS hSw; (try dsimp only at hSw); go_simp; (try with_reducible rfl)
          try simp only [Act.put, List.setIfInBounds_toArray, List.set_cons_zero, List.set_cons_succ]
          refine wpAnyH_ready (rs := [14]) (by kernel_rfl) (by simp) ?_
          refine AllReadyH.cons (o := _) rfl (fun K hK => ?_) AllReadyH.nil
          go_simp
          refine hK.out _ _ ?_ (fun hHeld12 => ?_)
          · (try dsimp only); (first | (refine ⟨?_, ?_, ?_, ?_⟩ <;> (first | with_reducible assumption | simp only [*])) | exact ⟨x0, x1, g0, cx0⟩)
          clear hK K hHeld11
          try simp only [Act.put, List.setIfInBounds_toArray, List.set_cons_zero, List.set_cons_succ]
          refine wpAnyH_ready (rs := [15]) (by kernel_rfl) (by simp) ?_
          refine AllReadyH.cons (o := _) rfl (fun K hK => ?_) AllReadyH.nil
          (refine step_append_ty (by rfl) (.tmp 22) (.tmp 35) 24 24 (by rfl) (.slice ad k cd) (.slice (some ⟨wp.heap.size, 0, none⟩) 1 1) _ (by rfl) (by rfl) R7.out ?_)
          refine hK.out _ _ ?_ (fun hHeld13 => ?_)
          · (try dsimp only); (first | (refine ⟨?_, ?_, ?_, ?_⟩ <;> (first | with_reducible assumption | simp only [*])) | exact ⟨x0, x1, g0, cx0⟩)
          clear hK K hHeld12
          try simp only [Act.put, List.setIfInBounds_toArray, List.set_cons_zero, List.set_cons_succ]
          refine wpAnyH_take (i := 16) (oi := _) (v := ?_) rfl (by kernel_rfl) (by kernel_rfl) (by kernel_rfl) (fun _ _ _ h => h) (Or.inl ⟨by rfl, ?_⟩) (by assumption) ?_
          rotate_left
          · intro wS hSw; (try dsimp only at hSw); go_simp; (try with_reducible rfl)
          try simp only [Act.put, List.setIfInBounds_toArray, List.set_cons_zero, List.set_cons_succ]
          refine wpAnyH_ready (rs := [17]) (by kernel_rfl) (by simp) ?_
          refine AllReadyH.cons (o := _) rfl (fun K hK => ?_) AllReadyH.nil
          go_simp
          refine hK.out _ _ ?_ (fun hHeld14 => ?_)
          · (try dsimp only); (first | (refine ⟨?_, ?_, ?_, ?_⟩ <;> (first | with_reducible assumption | simp only [*])) | exact ⟨x0, x1, g0, cx0⟩)
          clear hK K hHeld13
          try simp only [Act.put, List.setIfInBounds_toArray, List.set_cons_zero, List.set_cons_succ]
          refine wpAnyH_done (by kernel_rfl) ?_ _
          refine NoPanic.normal ?_
          go_wp2
          go_roundw
          case rel => exact ⟨k + 1, _, _, by omega, by go_num, O7.out⟩
          case measure => simp [intOf]; omega
        refine AllReadyH.cons (o := _) rfl (fun K hK => ?_) AllReadyH.nil
        go_simp
        (go_at_call 58; refine (HBK.out _ _ _ II.out).mono ?_; rintro r wb ⟨ab, cb, rfl, ib, hb⟩; have BB : Hid (Below wr.heap.size wr wb) := bTrans BI.out hb; have IB : Hid (Ints wb ab ix.reverse) := ib; have q0 := (XR.out.keep BB.out).c0; have q1 := (XR.out.keep BB.out).c1; have q2 := (OK.out.box.keep BB.out).c0; have q3 := (OK.out.box.keep BB.out).c1; have q4 := CC.out _ (bTrans BWr.out BB.out); clear ib hb)
        try go_wp2_with fail
        refine hK.out _ _ ?_ (fun hHeld15 => ?_)
        · (try dsimp only); (first | (refine ⟨?_, ?_, ?_, ?_⟩ <;> (first | with_reducible assumption | simp only [*])) | exact ⟨x0, x1, g0, cx0⟩)
        clear hK K hHeld8
        try simp only [Act.put, List.setIfInBounds_toArray, List.set_cons_zero, List.set_cons_succ]
        refine wpAnyH_ready (rs := [1, 11]) (by kernel_rfl) (by simp) ?_
        refine AllReadyH.cons (o := _) rfl (fun K hK => ?_) ?_
        · skip
          go_simp
          refine hK.out _ _ ?_ (fun hHeld16 => ?_)
          · (try dsimp only); (first | (refine ⟨?_, ?_, ?_, ?_⟩ <;> (first | with_reducible assumption | simp only [*])) | exact ⟨x0, x1, g0, cx0⟩)
          clear hK K hHeld15
          try simp only [Act.put, List.setIfInBounds_toArray, List.set_cons_zero, List.set_cons_succ]
          refine wpAnyH_ready (rs := [11]) (by kernel_rfl) (by simp) ?_
          refine AllReadyH.cons (o := _) rfl (fun K hK => ?_) AllReadyH.nil
          go_simp
          (go_at_call 59; refine (HPL.out _ _ _ (IS.out _ (bTrans BWr.out BB.out)) IB.out).mono ?_; rintro r wp ⟨rfl, hb⟩; have BP : Hid (Below wr.heap.size wr wp) := bTrans BB.out hb; have r0 := (XR.out.keep BP.out).c0; have r1 := (XR.out.keep BP.out).c1; have r2 := (OK.out.box.keep BP.out).c0; have r3 := (OK.out.box.keep BP.out).c1; have cx := CC.out _ (bTrans BWr.out BP.out); obtain ⟨a7, c7, w7, hr7, hb7, ho7⟩ := (OK.out.keep BP.out).grow1 hk3 x; have R7 : Hid ((Builtin.append_ #[24, 24] 24 #[.slice ad k cd, .slice (some ⟨wp.heap.size, 0, none⟩) 1 1]).run Try.prog (wp.alloc (.cells #[.int .i64 x] 3)) = .ok (.slice a7 (k + 1) c7) w7) := hr7; rw [EM2.out] at ho7; have O7 : Hid (OutAt w2.heap.size w2 (w7.setCell ⟨w2.heap.size, 1, none⟩ (.slice a7 (k + 1) c7)) (.slice a2 s.length c2) a7 c7 (k + 1) ((List.range (k + 1)).map (fun (i : Nat) => d.getD (placeV s (indexV SR (i : Int)).reverse).toNat 0))) := ho7; have n1 := hb7.c1; have n2 : w7.frozen? ⟨w2.heap.size, 1, none⟩ = false := free_at hb7 1; have n0 := hb7.c0; have t0 := (XR.out.keep (bAlloc BP.out (.cells #[.int .i64 x] 3))).c0; have t1 := (XR.out.keep (bAlloc BP.out (.cells #[.int .i64 x] 3))).c1; have t2 := (OK.out.box.keep (bAlloc BP.out (.cells #[.int .i64 x] 3))).c0; have t3 := (OK.out.box.keep (bAlloc BP.out (.cells #[.int .i64 x] 3))).c1; have XS : Hid (Box (w7.setCell ⟨w2.heap.size, 1, none⟩ (.slice a7 (k + 1) c7)) w.heap.size (.slice a s.length c) (.slice (some ⟨b1, o1, none⟩) d.length f) 26) := X2.out.keep ho7.below; have v0 := XS.out.c0; have v1 := XS.out.c1; have v2 := ho7.box.c0; have X7 : Hid (Box w7 w.heap.size (.slice a s.length c) (.slice (some ⟨b1, o1, none⟩) d.length f) 26) := (by have q := XS.out; unfold Box at q; show w7.heap[_]? = _; rw [← (win_setCell w7 w2.heap.size 1 (.slice a7 (k + 1) c7)).block w.heap.size (by have := hb7.lt; have := X2.out.lt; omega) (.inl X2.out.lt)]; exact q); have u0 := X7.out.c0; have u1 := X7.out.c1; have t4 := CC.out _ (bTrans BWr.out (bAlloc BP.out (.cells #[.int .i64 x] 3))); have v4 := CC.out _ (bTrans (bTrans HB1.out HB2.out) ho7.below); have u4 : w7.cell? ⟨b1, o1 + PN, none⟩ = some (.int .i64 x) := (by have q := v4; rw [World.cell?_of_block (w := w7) (w' := w7.setCell ⟨w2.heap.size, 1, none⟩ (.slice a7 (k + 1) c7)) (a := ⟨b1, o1 + PN, none⟩) ((win_setCell w7 w2.heap.size 1 (.slice a7 (k + 1) c7)).block b1 (by have := hb7.lt; have := X2.out.lt; omega) (.inl (by have := X2.out.lt; omega)))] at q; exact q); clear hb hr7 hb7 ho7)
          try go_wp2_with fail
          refine hK.out _ _ ?_ (fun hHeld17 => ?_)
          · (try dsimp only); (first | (refine ⟨?_, ?_, ?_, ?_⟩ <;> (first | with_reducible assumption | simp only [*])) | exact ⟨x0, x1, g0, cx0⟩)
          clear hK K hHeld16
          try simp only [Act.put, List.setIfInBounds_toArray, List.set_cons_zero, List.set_cons_succ]
          refine wpAnyH_take (i := 12) (oi := _) (v := ?_) rfl (by kernel_rfl) (by kernel_rfl) (by kernel_rfl) (fun _ _ _ h => h) (Or.inl ⟨by rfl, ?_⟩) (by assumption) ?_
          rotate_left
          · intro wS hSw; (try dsimp only at hSw); go_simp; (try with_reducible rfl)
          try simp only [Act.put, List.setIfInBounds_toArray, List.set_cons_zero, List.set_cons_succ]
          refine wpAnyH_take (i := 13) (oi := _) (v := ?_) rfl (by kernel_rfl) (by kernel_rfl) (by kernel_rfl) (fun _ _ _ h => h) (Or.inl ⟨by rfl, ?_⟩) (by assumption) ?_
          rotate_left
          · intro wS hSw; (try dsimp only at hSw); go_simp; (try with_reducible rfl)
          try simp only [Act.put, List.setIfInBounds_toArray, List.set_cons_zero, List.set_cons_succ]
          refine wpAnyH_ready (rs := [14]) (by kernel_rfl) (by simp) ?_
          refine AllReadyH.cons (o := _) rfl (fun K hK => ?_) AllReadyH.nil
          go_simp
          refine hK.out _ _ ?_ (fun hHeld18 => ?_)
          · (try dsimp only); (first | (refine ⟨?_, ?_, ?_, ?_⟩ <;> (first | with_reducible assumption | simp only [*])) | exact ⟨x0, x1, g0, cx0⟩)
          clear hK K hHeld17
          try simp only [Act.put, List.setIfInBounds_toArray, List.set_cons_zero, List.set_cons_succ]
          refine wpAnyH_ready (rs := [15]) (by kernel_rfl) (by simp) ?_
          refine AllReadyH.cons (o := _) rfl (fun K hK => ?_) AllReadyH.nil
          (refine step_append_ty (by rfl) (.tmp 22) (.tmp 35) 24 24 (by rfl) (.slice ad k cd) (.slice (some ⟨wp.heap.size, 0, none⟩) 1 1) _ (by rfl) (by rfl) R7.out ?_)
          refine hK.out _ _ ?_ (fun hHeld19 => ?_)
          · (try dsimp only); (first | (refine ⟨?_, ?_, ?_, ?_⟩ <;> (first | with_reducible assumption | simp only [*])) | exact ⟨x0, x1, g0, cx0⟩)
          clear hK K hHeld18
          try simp only [Act.put, List.setIfInBounds_toArray, List.set_cons_zero, List.set_cons_succ]
          refine wpAnyH_take (i := 16) (oi := _) (v := ?_) rfl (by kernel_rfl) (by kernel_rfl) (by kernel_rfl) (fun _ _ _ h => h) (Or.inl ⟨by rfl, ?_⟩) (by assumption) ?_
          rotate_left
          · intro wS hSw; (try dsimp only at hSw); go_simp; (try with_reducible rfl)
          try simp only [Act.put, List.setIfInBounds_toArray, List.set_cons_zero, List.set_cons_succ]
          refine wpAnyH_ready (rs := [17]) (by kernel_rfl) (by simp) ?_
          refine AllReadyH.cons (o := _) rfl (fun K hK => ?_) AllReadyH.nil
          go_simp
          refine hK.out _ _ ?_ (fun hHeld20 => ?_)
          · (try dsimp only); (first | (refine ⟨?_, ?_, ?_, ?_⟩ <;> (first | with_reducible assumption | simp only [*])) | exact ⟨x0, x1, g0, cx0⟩)
          clear hK K hHeld19
          try simp only [Act.put, List.setIfInBounds_toArray, List.set_cons_zero, List.set_cons_succ]
          refine wpAnyH_done (by kernel_rfl) ?_ _
          refine NoPanic.normal ?_
          go_wp2
          go_roundw
          case rel => exact ⟨k + 1, _, _, by omega, by go_num, O7.out⟩
          case measure => simp [intOf]; omega
        refine AllReadyH.cons (o := _) rfl (fun K hK => ?_) AllReadyH.nil
        go_simp
        (go_at_call 59; refine (HPL.out _ _ _ (IS.out _ (bTrans BWr.out BB.out)) IB.out).mono ?_; rintro r wp ⟨rfl, hb⟩; have BP : Hid (Below wr.heap.size wr wp) := bTrans BB.out hb; have r0 := (XR.out.keep BP.out).c0; have r1 := (XR.out.keep BP.out).c1; have r2 := (OK.out.box.keep BP.out).c0; have r3 := (OK.out.box.keep BP.out).c1; have cx := CC.out _ (bTrans BWr.out BP.out); obtain ⟨a7, c7, w7, hr7, hb7, ho7⟩ := (OK.out.keep BP.out).grow1 hk3 x; have R7 : Hid ((Builtin.append_ #[24, 24] 24 #[.slice ad k cd, .slice (some ⟨wp.heap.size, 0, none⟩) 1 1]).run Try.prog (wp.alloc (.cells #[.int .i64 x] 3)) = .ok (.slice a7 (k + 1) c7) w7) := hr7; rw [EM2.out] at ho7; have O7 : Hid (OutAt w2.heap.size w2 (w7.setCell ⟨w2.heap.size, 1, none⟩ (.slice a7 (k + 1) c7)) (.slice a2 s.length c2) a7 c7 (k + 1) ((List.range (k + 1)).map (fun (i : Nat) => d.getD (placeV s (indexV SR (i : Int)).reverse).toNat 0))) := ho7; have n1 := hb7.c1; have n2 : w7.frozen? ⟨w2.heap.size, 1, none⟩ = false := free_at hb7 1; have n0 := hb7.c0; have t0 := (XR.out.keep (bAlloc BP.out (.cells #[.int .i64 x] 3))).c0; have t1 := (XR.out.keep (bAlloc BP.out (.cells #[.int .i64 x] 3))).c1; have t2 := (OK.out.box.keep (bAlloc BP.out (.cells #[.int .i64 x] 3))).c0; have t3 := (OK.out.box.keep (bAlloc BP.out (.cells #[.int .i64 x] 3))).c1; have XS : Hid (Box (w7.setCell ⟨w2.heap.size, 1, none⟩ (.slice a7 (k + 1) c7)) w.heap.size (.slice a s.length c) (.slice (some ⟨b1, o1, none⟩) d.length f) 26) := X2.out.keep ho7.below; have v0 := XS.out.c0; have v1 := XS.out.c1; have v2 := ho7.box.c0; have X7 : Hid (Box w7 w.heap.size (.slice a s.length c) (.slice (some ⟨b1, o1, none⟩) d.length f) 26) := (by have q := XS.out; unfold Box at q; show w7.heap[_]? = _; rw [← (win_setCell w7 w2.heap.size 1 (.slice a7 (k + 1) c7)).block w.heap.size (by have := hb7.lt; have := X2.out.lt; omega) (.inl X2.out.lt)]; exact q); have u0 := X7.out.c0; have u1 := X7.out.c1; have t4 := CC.out _ (bTrans BWr.out (bAlloc BP.out (.cells #[.int .i64 x] 3))); have v4 := CC.out _ (bTrans (bTrans HB1.out HB2.out) ho7.below); have u4 : w7.cell? ⟨b1, o1 + PN, none⟩ = some (.int .i64 x) := (by have q := v4; rw [World.cell?_of_block (w := w7) (w' := w7.setCell ⟨w2.heap.size, 1, none⟩ (.slice a7 (k + 1) c7)) (a := ⟨b1, o1 + PN, none⟩) ((win_setCell w7 w2.heap.size 1 (.slice a7 (k + 1) c7)).block b1 (by have := hb7.lt; have := X2.out.lt; omega) (.inl (by have := X2.out.lt; omega)))] at q; exact q); clear hb hr7 hb7 ho7)
        try go_wp2_with fail
        refine hK.out _ _ ?_ (fun hHeld21 => ?_)
        · (try dsimp only); (first | (refine ⟨?_, ?_, ?_, ?_⟩ <;> (first | with_reducible assumption | simp only [*])) | exact ⟨x0, x1, g0, cx0⟩)
        clear hK K hHeld15
        try simp only [Act.put, List.setIfInBounds_toArray, List.set_cons_zero, List.set_cons_succ]
        refine wpAnyH_take (i := 12) (oi := _) (v := ?_) rfl (by kernel_rfl) (by kernel_rfl) (by kernel_rfl) (fun _ _ _ h => h) (Or.inl ⟨by rfl, ?_⟩) (by assumption) ?_
        rotate_left
        · intro wS hSw; (try dsimp only at hSw); go_simp; (try with_reducible rfl)
        try simp only [Act.put, List.setIfInBounds_toArray, List.set_cons_zero, List.set_cons_succ]
        refine wpAnyH_take (i := 13) (oi := _) (v := ?_) rfl (by kernel_rfl) (by kernel_rfl) (by kernel_rfl) (fun _ _ _ h => h) (Or.inl ⟨by rfl, ?_⟩) (by assumption) ?_
        rotate_left
        · intro wS hSw; (try dsimp only at hSw); go_simp; (try with_reducible rfl)
        try simp only [Act.put, List.setIfInBounds_toArray, List.set_cons_zero, List.set_cons_succ]
        refine wpAnyH_ready (rs := [1, 14]) (by kernel_rfl) (by simp) ?_
        refine AllReadyH.cons (o := _) rfl (fun K hK => ?_) ?_
        · skip
          go_simp
          refine hK.out _ _ ?_ (fun hHeld22 => ?_)
          · (try dsimp only); (first | (refine ⟨?_, ?_, ?_, ?_⟩ <;> (first | with_reducible assumption | simp only [*])) | exact ⟨x0, x1, g0, cx0⟩)
          clear hK K hHeld21
          try simp only [Act.put, List.setIfInBounds_toArray, List.set_cons_zero, List.set_cons_succ]
          refine wpAnyH_ready (rs := [14]) (by kernel_rfl) (by simp) ?_
          refine AllReadyH.cons (o := _) rfl (fun K hK => ?_) AllReadyH.nil
          go_simp
          refine hK.out _ _ ?_ (fun hHeld23 => ?_)
          · (try dsimp only); (first | (refine ⟨?_, ?_, ?_, ?_⟩ <;> (first | with_reducible assumption | simp only [*])) | exact ⟨x0, x1, g0, cx0⟩)
          clear hK K hHeld22
          try simp only [Act.put, List.setIfInBounds_toArray, List.set_cons_zero, List.set_cons_succ]
          refine wpAnyH_ready (rs := [15]) (by kernel_rfl) (by simp) ?_
          refine AllReadyH.cons (o := _) rfl (fun K hK => ?_) AllReadyH.nil
          (refine step_append_ty (by rfl) (.tmp 22) (.tmp 35) 24 24 (by rfl) (.slice ad k cd) (.slice (some ⟨wp.heap.size, 0, none⟩) 1 1) _ (by rfl) (by rfl) R7.out ?_)
          refine hK.out _ _ ?_ (fun hHeld24 => ?_)
          · (try dsimp only); (first | (refine ⟨?_, ?_, ?_, ?_⟩ <;> (first | with_reducible assumption | simp only [*])) | exact ⟨x0, x1, g0, cx0⟩)
          clear hK K hHeld23
          try simp only [Act.put, List.setIfInBounds_toArray, List.set_cons_zero, List.set_cons_succ]
          refine wpAnyH_take (i := 16) (oi := _) (v := ?_) rfl (by kernel_rfl) (by kernel_rfl) (by kernel_rfl) (fun _ _ _ h => h) (Or.inl ⟨by rfl, ?_⟩) (by assumption) ?_
          rotate_left
          · intro wS hSw; (try dsimp only at hSw); go_simp; (try with_reducible rfl)
          try simp only [Act.put, List.setIfInBounds_toArray, List.set_cons_zero, List.set_cons_succ]
          refine wpAnyH_ready (rs := [17]) (by kernel_rfl) (by simp) ?_
          refine AllReadyH.cons (o := _) rfl (fun K hK => ?_) AllReadyH.nil
          go_simp
          refine hK.out _ _ ?_ (fun hHeld25 => ?_)
          · (try dsimp only); (first | (refine ⟨?_, ?_, ?_, ?_⟩ <;> (first | with_reducible assumption | simp only [*])) | exact ⟨x0, x1, g0, cx0⟩)
          clear hK K hHeld24
          try simp only [Act.put, List.setIfInBounds_toArray, List.set_cons_zero, List.set_cons_succ]
          refine wpAnyH_done (by kernel_rfl) ?_ _
          refine NoPanic.normal ?_
          go_wp2
          go_roundw
          case rel => exact ⟨k + 1, _, _, by omega, by go_num, O7.out⟩
          case measure => simp [intOf]; omega
        refine AllReadyH.cons (o := _) rfl (fun K hK => ?_) AllReadyH.nil
        go_simp
        refine hK.out _ _ ?_ (fun hHeld26 => ?_)
        · (try dsimp only); (first | (refine ⟨?_, ?_, ?_, ?_⟩ <;> (first | with_reducible assumption | simp only [*])) | exact ⟨x0, x1, g0, cx0⟩)
        clear hK K hHeld21
        try simp only [Act.put, List.setIfInBounds_toArray, List.set_cons_zero, List.set_cons_succ]
        refine wpAnyH_ready (rs := [1]) (by kernel_rfl) (by simp) ?_
        refine AllReadyH.cons (o := _) rfl (fun K hK => ?_) AllReadyH.nil
        go_simp
        refine hK.out _ _ ?_ (fun hHeld27 => ?_)
        · (try dsimp only); (first | (refine ⟨?_, ?_, ?_, ?_⟩ <;> (first | with_reducible assumption | simp only [*])) | exact ⟨x0, x1, g0, cx0⟩)
        clear hK K hHeld26
        try simp only [Act.put, List.setIfInBounds_toArray, List.set_cons_zero, List.set_cons_succ]
        refine wpAnyH_ready (rs := [15]) (by kernel_rfl) (by simp) ?_
        refine AllReadyH.cons (o := _) rfl (fun K hK => ?_) AllReadyH.nil
        (refine step_append_ty (by rfl) (.tmp 22) (.tmp 35) 24 24 (by rfl) (.slice ad k cd) (.slice (some ⟨wp.heap.size, 0, none⟩) 1 1) _ (by rfl) (by rfl) R7.out ?_)
        refine hK.out _ _ ?_ (fun hHeld28 => ?_)
        · (try dsimp only); (first | (refine ⟨?_, ?_, ?_, ?_⟩ <;> (first | with_reducible assumption | simp only [*])) | exact ⟨x0, x1, g0, cx0⟩)
        clear hK K hHeld27
        try simp only [Act.put, List.setIfInBounds_toArray, List.set_cons_zero, List.set_cons_succ]
        refine wpAnyH_take (i := 16) (oi := _) (v := ?_) rfl (by kernel_rfl) (by kernel_rfl) (by kernel_rfl) (fun _ _ _ h => h) (Or.inl ⟨by rfl, ?_⟩) (by assumption) ?_
        rotate_left
        · intro wS hSw; (try dsimp only at hSw); go_simp; (try with_reducible rfl)
        try simp only [Act.put, List.setIfInBounds_toArray, List.set_cons_zero, List.set_cons_succ]
        refine wpAnyH_ready (rs := [17]) (by kernel_rfl) (by simp) ?_
        refine AllReadyH.cons (o := _) rfl (fun K hK => ?_) AllReadyH.nil
        go_simp
        refine hK.out _ _ ?_ (fun hHeld29 => ?_)
        · (try dsimp only); (first | (refine ⟨?_, ?_, ?_, ?_⟩ <;> (first | with_reducible assumption | simp only [*])) | exact ⟨x0, x1, g0, cx0⟩)
        clear hK K hHeld28
        try simp only [Act.put, List.setIfInBounds_toArray, List.set_cons_zero, List.set_cons_succ]
        refine wpAnyH_done (by kernel_rfl) ?_ _
        refine NoPanic.normal ?_
        go_wp2
        go_roundw
        case rel => exact ⟨k + 1, _, _, by omega, by go_num, O7.out⟩
        case measure => simp [intOf]; omega
      · have EK : Hid (k = d.length) := by show _ = _; omega
        have OK2 : Hid (OutAt w2.heap.size w2 wr (.slice a2 SR.length c2) ad cd k ((List.range k).map (fun (i : Nat) => d.getD (placeV s (indexV SR (i : Int)).reverse).toNat 0))) := by show OutAt _ _ _ _ _ _ _ _; rw [HSRL.out]; exact OK.out
        have P3 : Hid (Piece w1.heap.size w2.heap.size w2 (.slice a2 SR.length c2) SR) := by show Piece _ _ _ _ _; rw [HSRL.out]; exact P2.out
        have HA : Hid (Arr w1.heap.size wr.heap.size wr (.agg #[.slice a2 s.length c2, .slice ad k cd]) SR ((List.range d.length).map (fun (i : Nat) => d.getD (placeV s (indexV SR (i : Int)).reverse).toNat 0))) := by
          have := OK2.out.arr P3.out (Nat.le_refl _) HB2.out.size
          rw [HSRL.out] at this
          show Arr _ _ _ _ _ _
          rw [← EK.out]
          exact this
        have YR : Hid (Box wr (w.heap.size + 1) (.slice none 0 0) (.slice none 0 0) 26) := Y2.out.keep OK.out.below
        have y0 := YR.out.c0
        have y1 := YR.out.c1
        have f0 : wr.frozen? ⟨w.heap.size + 1, 0, none⟩ = false := free_at YR.out 0
        have f1 : wr.frozen? ⟨w.heap.size + 1, 1, none⟩ = false := free_at YR.out 1
        have HR : Hid (((wr.setCell ⟨w.heap.size + 1, 0, none⟩ (.slice a2 s.length c2)).setCell ⟨w.heap.size + 1, 1, none⟩ (.slice ad k cd)).heap[w.heap.size + 1]? = some (.cells #[.slice a2 s.length c2, .slice ad k cd] 26 (0, 0))) := arr_stored YR.out
        go_wp2
        refine bodyPost_ret (results_arr_tmp Try.results21 _ _ (w.heap.size + 1) _ _ rfl HR.out) rfl ?_
        refine ⟨_, rfl, ?_, below_setCell (below_setCell BWr.out (by omega) _ _) (by omega) _ _⟩
        have L := L1.out
        exact ((HA.out.setCell L _ _).setCell L _ _).mono (by omega) (by simp only [size_setCell]; omega)
  · have HO : Hid (arrOk s d = false) := by show _ = _; simpa using ho
    have ER : flipR s d = (1, [], []) := by unfold flipR; rw [okC_bad ho]; rfl
    rw [ER]
    clear ER ho h1 h2 hd g1 hp
    go_enter Try.func21, Try.ntmps21
    go_wp2_with fail
    refine (arrOk_spec (H.out.keep (bAlloc (bAlloc (Below.refl _ _) _) _)) HD.out).mono ?_
    rintro r w1 ⟨rfl, hb⟩
    have HB1 : Hid (Below w.heap.size w w1) := bTrans (bAlloc (bAlloc (Below.refl _ _) _) _) hb
    have X1 : Hid (Box w1 w.heap.size (.slice a s.length c) (.slice b d.length f) 26) := ((box_new w _ _ _).keep (bAlloc (Below.refl _ _) _)).keep hb
    have Y1 : Hid (Box w1 (w.heap.size + 1) (.slice none 0 0) (.slice none 0 0) 26) := (box_new2 w _ _ _ _).keep hb
    have x0 := X1.out.c0
    have x1 := X1.out.c1
    have L1 : Hid (w.heap.size + 1 < w1.heap.size) := Y1.out.lt
    clear hb
    rw [HO.out]
    have y0 := Y1.out.c0
    have y1 := Y1.out.c1
    have f0 : w1.frozen? ⟨w.heap.size + 1, 0, none⟩ = false := free_at Y1.out 0
    have f1 : w1.frozen? ⟨w.heap.size + 1, 1, none⟩ = false := free_at Y1.out 1
    have HR : Hid (((w1.setCell ⟨w.heap.size + 1, 0, none⟩ (.slice none 0 0)).setCell ⟨w.heap.size + 1, 1, none⟩ (.slice none 0 0)).heap[w.heap.size + 1]? = some (.cells #[.slice none 0 0, .slice none 0 0] 26 (0, 0))) := arr_stored Y1.out
    go_wp2
    refine bodyPost_ret (results_arr_tmp Try.results21 _ _ (w.heap.size + 1) _ _ rfl HR.out) rfl ?_
    refine ⟨_, rfl, ?_, below_setCell (below_setCell HB1.out (by omega) _ _) (by omega) _ _⟩
    exact arr_zero _ _ _
end Go.Proofs.Ytfmheanmkfdjnai
