/-
  Walks: HeapDrop whole, of the specification and of the program.
-/
import Derived.Test.YtalcallmkbdnlabHeapD
namespace Go.Proofs.Ytalcallmkbdnlab
open Go.RowKit
set_option linter.unusedVariables false
set_option linter.unusedSimpArgs false
set_option maxRecDepth 20000 in
set_option maxHeartbeats 16000000 in
theorem heapDrop_spec {w : World} {v : Value} {W : List Int} {t : Int} {n : Nat} {E : Nat → Cel} (i : Int) (h : HI w v W t n E) (he : (∀ i, in64 (E i).f ∧ in64 (E i).l) ∧ in64 t) (hW : W.length ≤ 1048576) (hn : n ≤ 1048576) :
    Calls Try.prog 10 #[v, .int .i64 i] w fun e w' => ∃ v', e = .returned (.tuple #[v', .bool (hOkB W.length t n E && liveB n E i)]) ∧ HP w.heap.size w'.heap.size w' v' (if hOkB W.length t n E = true then W else []) (if hOkB W.length t n E = true then t else 0) (if hOkB W.length t n E = true then n else 0) (dropE n E i) ∧ Below w.heap.size w w' := by
  have CK : Hid (∀ W', Below w.heap.size w W' → Calls Try.prog 21 #[v] W' fun e w' => e = .returned (.bool (hOkB W.length t n E)) ∧ Below W'.heap.size W' w') := fun W' hb => heapOk_spec (h.keep hb) he hW hn
  have CC : Hid (∀ W', Below w.heap.size w W' → Calls Try.prog 39 #[v] W' fun e w' => ∃ v', e = .returned v' ∧ HP W'.heap.size w'.heap.size w' v' W t n E ∧ Below W'.heap.size W' w') := fun W' hb => heapCopy_spec (h.keep hb) hW hn
  have CL : Hid (∀ W', Below w.heap.size w W' → Calls Try.prog 38 #[v, .int .i64 i] W' fun e w' => e = .returned (.bool (liveB n E i)) ∧ Below W'.heap.size W' w') := fun W' hb => live_spec (h.keep hb) i hn
  obtain ⟨wa, wc, ca, cc, rfl, h1, h2, h3, h4⟩ := h
  clear h1 h2 h3 h4 he
  go_enter Try.func10, Try.ntmps10
  go_wp2_with fail
  generalize hV : (w.alloc (.cells #[.slice wa W.length wc, .int .i64 t, .slice ca n cc] 29)).alloc (.cells #[.slice none 0 0, .int .i64 0, .slice none 0 0] 29) = V
  have B1 : Hid (Below w.heap.size w V) := by rw [← hV]; exact bAlloc (bAlloc (Below.refl _ _) _) _
  have X1 : Hid (Box3 V w.heap.size (.slice wa W.length wc) (.int .i64 t) (.slice ca n cc) 29) := by rw [← hV]; exact (box3_new _ _ _ _ _).alloc _
  have Y1 : Hid (Box3 V (w.heap.size + 1) (.slice none 0 0) (.int .i64 0) (.slice none 0 0) 29) := by
    have := box3_new (w.alloc (.cells #[.slice wa W.length wc, .int .i64 t, .slice ca n cc] 29)) (.slice none 0 0) (.int .i64 0) (.slice none 0 0) 29
    show Box3 _ _ _ _ _ _
    rw [← hV]; simpa using this
  clear hV
  refine (CK.out _ B1.out).mono ?_
  rintro r w2 ⟨rfl, hb⟩
  have B2 : Hid (Below w.heap.size w w2) := bTrans B1.out hb
  have X2 : Hid (Box3 w2 w.heap.size (.slice wa W.length wc) (.int .i64 t) (.slice ca n cc) 29) := X1.out.keep hb
  have Y2 : Hid (Box3 w2 (w.heap.size + 1) (.slice none 0 0) (.int .i64 0) (.slice none 0 0) 29) := Y1.out.keep hb
  clear hb B1 X1 Y1
  by_cases kk : hOkB W.length t n E = true
  case neg =>
    have e1 : hOkB W.length t n E = false := by simpa using kk
    rw [e1]
    have r0 := Y2.out.c0
    have r1 := Y2.out.c1
    have r2 := Y2.out.c2
    have f0 := Y2.out.free 0
    have f1 := Y2.out.free 1
    have f2 := Y2.out.free 2
    go_wp2
    clear r0 r1 r2 f0 f1 f2
    generalize hZ : ((w2.setCell ⟨w.heap.size + 1, 0, none⟩ (.slice none 0 0)).setCell ⟨w.heap.size + 1, 1, none⟩ (.int .i64 0)).setCell ⟨w.heap.size + 1, 2, none⟩ (.slice none 0 0) = wz
    have YZ : Box3 wz (w.heap.size + 1) (.slice none 0 0) (.int .i64 0) (.slice none 0 0) 29 := by rw [← hZ]; exact ((Y2.out.set0 _).set1 _).set2 _
    have BZ : Below w.heap.size w wz := by rw [← hZ]; exact below_setCell (below_setCell (below_setCell B2.out (by omega) _ _) (by omega) _ _) (by omega) _ _
    have v0 := YZ.c0
    have v1 := YZ.c1
    have v2 := YZ.c2
    refine bodyPost_ret (v := .tuple #[.agg #[.slice none 0 0, .int .i64 0, .slice none 0 0], .bool false]) (by simp [results, Try.results10, go_sem, v0, v1, v2]) rfl ?_
    exact ⟨_, rfl, HP.zero _ _ BZ.size _ _, BZ⟩
  case pos =>
  have OK : Hid (hOk W.length t n E) := hOkB_iff.1 kk
  have x0 := X2.out.c0
  have x1 := X2.out.c1
  have x2 := X2.out.c2
  rw [kk]
  go_wp2_with fail
  refine (CL.out _ B2.out).mono ?_
  rintro r w3 ⟨rfl, hb⟩
  have B3 : Hid (Below w.heap.size w w3) := bTrans B2.out hb
  have X3 : Hid (Box3 w3 w.heap.size (.slice wa W.length wc) (.int .i64 t) (.slice ca n cc) 29) := X2.out.keep hb
  have Y3 : Hid (Box3 w3 (w.heap.size + 1) (.slice none 0 0) (.int .i64 0) (.slice none 0 0) 29) := Y2.out.keep hb
  clear hb B2 X2 Y2 x0 x1 x2
  have x0 := X3.out.c0
  have x1 := X3.out.c1
  have x2 := X3.out.c2
  have L3 := Y3.out.lt
  by_cases ll : liveB n E i = true
  case neg =>
    have e1 : liveB n E i = false := by simpa using ll
    have e2 : dropE n E i = E := by unfold dropE; rw [if_neg ll]
    rw [e1]
    go_wp2_with fail
    refine (CC.out _ B3.out).mono ?_
    rintro r w4 ⟨v', rfl, hP, hb⟩
    have P4 : Hid (HP w3.heap.size w4.heap.size w4 v' W t n E) := hP
    have B4 : Hid (Below w.heap.size w w4) := bTrans B3.out hb
    have Y4 : Hid (Box3 w4 (w.heap.size + 1) (.slice none 0 0) (.int .i64 0) (.slice none 0 0) 29) := Y3.out.keep hb
    clear hb hP x0 x1 x2
    obtain ⟨xa, xc, za, zc, rfl⟩ := P4.out.form
    have r0 := Y4.out.c0
    have r1 := Y4.out.c1
    have r2 := Y4.out.c2
    have f0 := Y4.out.free 0
    have f1 := Y4.out.free 1
    have f2 := Y4.out.free 2
    go_wp2
    clear r0 r1 r2 f0 f1 f2
    generalize hZ : ((w4.setCell ⟨w.heap.size + 1, 0, none⟩ (.slice xa W.length xc)).setCell ⟨w.heap.size + 1, 1, none⟩ (.int .i64 t)).setCell ⟨w.heap.size + 1, 2, none⟩ (.slice za n zc) = wz
    have YZ : Box3 wz (w.heap.size + 1) (.slice xa W.length xc) (.int .i64 t) (.slice za n zc) 29 := by rw [← hZ]; exact ((Y4.out.set0 _).set1 _).set2 _
    have WZ : Win (w.heap.size + 1) (w.heap.size + 1 + 1) w4 wz := by rw [← hZ]; exact ((win_setCell _ _ _ _).trans (win_setCell _ _ _ _)).trans (win_setCell _ _ _ _)
    have BZ : Below w.heap.size w wz := by rw [← hZ]; exact below_setCell (below_setCell (below_setCell B4.out (by omega) _ _) (by omega) _ _) (by omega) _ _
    have v0 := YZ.c0
    have v1 := YZ.c1
    have v2 := YZ.c2
    refine bodyPost_ret (v := .tuple #[.agg #[.slice xa W.length xc, .int .i64 t, .slice za n zc], .bool false]) (by simp [results, Try.results10, go_sem, v0, v1, v2]) rfl ?_
    exact ⟨_, rfl, (P4.out.win WZ (.inr (by omega))).mono (by omega) WZ.size, BZ⟩
  case pos =>
    obtain ⟨k, rfl, hk, hv⟩ := liveB_at ll
    have e2 : dropE n E (k : Int) = up E k cel0 := by unfold dropE; rw [if_pos ll]; simp
    rw [ll]
    go_wp2_with fail
    refine (CC.out _ B3.out).mono ?_
    rintro r w4 ⟨v', rfl, hP, hb⟩
    have P4 : Hid (HP w3.heap.size w4.heap.size w4 v' W t n E) := hP
    have B4 : Hid (Below w.heap.size w w4) := bTrans B3.out hb
    have Y4 : Hid (Box3 w4 (w.heap.size + 1) (.slice none 0 0) (.int .i64 0) (.slice none 0 0) 29) := Y3.out.keep hb
    have S4 := hb.size
    clear hb hP x0 x1 x2
    go_wp2_with fail
    refine (drop_spec P4.out (Nat.le_refl _) hk hn).mono ?_
    rintro r w5 ⟨v5, rfl, hP, hb⟩
    have P5 : Hid (HP w3.heap.size w4.heap.size w5 v5 W t n (up E k cel0)) := hP
    have B5 : Hid (Below w.heap.size w w5) := B4.out.trans (hb.mono (by have := B3.out.size; omega))
    have Y5 : Hid (Box3 w5 (w.heap.size + 1) (.slice none 0 0) (.int .i64 0) (.slice none 0 0) 29) := by
      show w5.heap[_]? = _
      rw [hb.block _ L3]
      exact Y4.out
    have S5 := hb.size
    clear hb hP
    obtain ⟨xa, xc, za, zc, rfl⟩ := P5.out.form
    have r0 := Y5.out.c0
    have r1 := Y5.out.c1
    have r2 := Y5.out.c2
    have f0 := Y5.out.free 0
    have f1 := Y5.out.free 1
    have f2 := Y5.out.free 2
    go_wp2
    clear r0 r1 r2 f0 f1 f2
    generalize hZ : ((w5.setCell ⟨w.heap.size + 1, 0, none⟩ (.slice xa W.length xc)).setCell ⟨w.heap.size + 1, 1, none⟩ (.int .i64 t)).setCell ⟨w.heap.size + 1, 2, none⟩ (.slice za n zc) = wz
    have YZ : Box3 wz (w.heap.size + 1) (.slice xa W.length xc) (.int .i64 t) (.slice za n zc) 29 := by rw [← hZ]; exact ((Y5.out.set0 _).set1 _).set2 _
    have WZ : Win (w.heap.size + 1) (w.heap.size + 1 + 1) w5 wz := by rw [← hZ]; exact ((win_setCell _ _ _ _).trans (win_setCell _ _ _ _)).trans (win_setCell _ _ _ _)
    have BZ : Below w.heap.size w wz := by rw [← hZ]; exact below_setCell (below_setCell (below_setCell B5.out (by omega) _ _) (by omega) _ _) (by omega) _ _
    have v0 := YZ.c0
    have v1 := YZ.c1
    have v2 := YZ.c2
    refine bodyPost_ret (v := .tuple #[.agg #[.slice xa W.length xc, .int .i64 t, .slice za n zc], .bool true]) (by simp [results, Try.results10, go_sem, v0, v1, v2]) rfl ?_
    exact ⟨_, rfl, (P5.out.win WZ (.inr (by omega))).mono (by omega) (Nat.le_trans S5 WZ.size), BZ⟩
set_option maxRecDepth 20000 in
set_option maxHeartbeats 16000000 in
theorem heapDrop_impl (hS : SortsBy) (hS0 : SortsNone) {w : World} {v : Value} {W : List Int} {t : Int} {n : Nat} {E : Nat → Cel} (i : Int) (h : HI w v W t n E) (he : (∀ i, in64 (E i).f ∧ in64 (E i).l) ∧ in64 t) (hW : W.length ≤ 1048576) (hn : n ≤ 1048576) :
    Calls Try.prog 12 #[v, .int .i64 i] w fun e w' => ∃ v', e = .returned (.tuple #[v', .bool (hOkB W.length t n E && liveB n E i)]) ∧ HP w.heap.size w'.heap.size w' v' (if hOkB W.length t n E = true then W else []) (if hOkB W.length t n E = true then t else 0) (if hOkB W.length t n E = true then n else 0) (dropE n E i) ∧ Below w.heap.size w w' := by
  have CK : Hid (∀ W', Below w.heap.size w W' → Calls Try.prog 20 #[v] W' fun e w' => e = .returned (.bool (hOkB W.length t n E)) ∧ Below W'.heap.size W' w') := fun W' hb => heapOk_impl hS hS0 (h.keep hb) he hW hn
  have CC : Hid (∀ W', Below w.heap.size w W' → Calls Try.prog 43 #[v] W' fun e w' => ∃ v', e = .returned v' ∧ HP W'.heap.size w'.heap.size w' v' W t n E ∧ Below W'.heap.size W' w') := fun W' hb => heapCopy_impl (h.keep hb) hW hn
  obtain ⟨wa, wc, ca, cc, rfl, h1, h2, h3, h4⟩ := h
  clear h1 h2 h3 h4 he
  go_enter Try.func12, Try.ntmps12
  go_wp2_with fail
  generalize hV : (w.alloc (.cells #[.slice wa W.length wc, .int .i64 t, .slice ca n cc] 29)).alloc (.cells #[.slice none 0 0, .int .i64 0, .slice none 0 0] 29) = V
  have B1 : Hid (Below w.heap.size w V) := by rw [← hV]; exact bAlloc (bAlloc (Below.refl _ _) _) _
  have X1 : Hid (Box3 V w.heap.size (.slice wa W.length wc) (.int .i64 t) (.slice ca n cc) 29) := by rw [← hV]; exact (box3_new _ _ _ _ _).alloc _
  have Y1 : Hid (Box3 V (w.heap.size + 1) (.slice none 0 0) (.int .i64 0) (.slice none 0 0) 29) := by
    have := box3_new (w.alloc (.cells #[.slice wa W.length wc, .int .i64 t, .slice ca n cc] 29)) (.slice none 0 0) (.int .i64 0) (.slice none 0 0) 29
    show Box3 _ _ _ _ _ _
    rw [← hV]; simpa using this
  clear hV
  refine (CK.out _ B1.out).mono ?_
  rintro r w2 ⟨rfl, hb⟩
  have B2 : Hid (Below w.heap.size w w2) := bTrans B1.out hb
  have X2 : Hid (Box3 w2 w.heap.size (.slice wa W.length wc) (.int .i64 t) (.slice ca n cc) 29) := X1.out.keep hb
  have Y2 : Hid (Box3 w2 (w.heap.size + 1) (.slice none 0 0) (.int .i64 0) (.slice none 0 0) 29) := Y1.out.keep hb
  clear hb B1 X1 Y1
  by_cases kk : hOkB W.length t n E = true
  case neg =>
    have e1 : hOkB W.length t n E = false := by simpa using kk
    rw [e1]
    have r0 := Y2.out.c0
    have r1 := Y2.out.c1
    have r2 := Y2.out.c2
    have f0 := Y2.out.free 0
    have f1 := Y2.out.free 1
    have f2 := Y2.out.free 2
    go_wp2
    clear r0 r1 r2 f0 f1 f2
    generalize hZ : ((w2.setCell ⟨w.heap.size + 1, 0, none⟩ (.slice none 0 0)).setCell ⟨w.heap.size + 1, 1, none⟩ (.int .i64 0)).setCell ⟨w.heap.size + 1, 2, none⟩ (.slice none 0 0) = wz
    have YZ : Box3 wz (w.heap.size + 1) (.slice none 0 0) (.int .i64 0) (.slice none 0 0) 29 := by rw [← hZ]; exact ((Y2.out.set0 _).set1 _).set2 _
    have BZ : Below w.heap.size w wz := by rw [← hZ]; exact below_setCell (below_setCell (below_setCell B2.out (by omega) _ _) (by omega) _ _) (by omega) _ _
    have v0 := YZ.c0
    have v1 := YZ.c1
    have v2 := YZ.c2
    refine bodyPost_ret (v := .tuple #[.agg #[.slice none 0 0, .int .i64 0, .slice none 0 0], .bool false]) (by simp [results, Try.results12, go_sem, v0, v1, v2]) rfl ?_
    exact ⟨_, rfl, HP.zero _ _ BZ.size _ _, BZ⟩
  case pos =>
  have OK : Hid (hOk W.length t n E) := hOkB_iff.1 kk
  have x0 := X2.out.c0
  have x1 := X2.out.c1
  have x2 := X2.out.c2
  rw [kk]
  go_wp2_with fail
  refine (CC.out _ B2.out).mono ?_
  rintro r w3 ⟨v', rfl, hP, hb⟩
  have B3 : Hid (Below w.heap.size w w3) := bTrans B2.out hb
  have Y3 : Hid (Box3 w3 (w.heap.size + 1) (.slice none 0 0) (.int .i64 0) (.slice none 0 0) 29) := Y2.out.keep hb
  have L2 := Y2.out.lt
  have S3 := hb.size
  obtain ⟨x, z, M, rfl, m1, m2, hx, hz⟩ := hP
  obtain ⟨xa, xc, rfl, _⟩ := hx.ints
  obtain ⟨za, zc, rfl, _⟩ := hz.csI
  have PX : Hid (Piece w2.heap.size M w3 (.slice xa W.length xc) W) := hx
  have PZ : Hid (CPiece M w3.heap.size w3 (.slice za n zc) n E) := hz
  clear hb hx hz x0 x1 x2 B2 X2 Y2
  go_wp2_with fail
  generalize hV : w3.alloc (.cells #[.slice xa W.length xc, .int .i64 t, .slice za n zc] 29) = w4
  have B34 : Below w3.heap.size w3 w4 := by rw [← hV]; exact bAlloc (Below.refl _ _) _
  have Q4 : Hid (Box3 w4 w3.heap.size (.slice xa W.length xc) (.int .i64 t) (.slice za n zc) 29) := by rw [← hV]; exact box3_new _ _ _ _ _
  have Y4 : Hid (Box3 w4 (w.heap.size + 1) (.slice none 0 0) (.int .i64 0) (.slice none 0 0) 29) := Y3.out.keep B34
  have B4 : Hid (Below w.heap.size w w4) := bTrans B3.out B34
  have PX4 : Hid (Piece w2.heap.size M w4 (.slice xa W.length xc) W) := PX.out.keep B34
  have PZ4 : Hid (CPiece M w3.heap.size w4 (.slice za n zc) n E) := PZ.out.keep B34
  have S4 := Q4.out.lt
  clear hV B34 PX PZ Y3
  refine (drop_impl Q4.out PZ4.out (Nat.le_refl _) m2 OK.out.2.2.2.2.1 i hn).mono ?_
  rintro r w5 ⟨rfl, hQ, hZ5, hW5⟩
  have Q5 : Hid (Box3 w5 w3.heap.size (.slice xa W.length xc) (.int .i64 t) (.slice za n zc) 29) := hQ
  have Y5 : Hid (Box3 w5 (w.heap.size + 1) (.slice none 0 0) (.int .i64 0) (.slice none 0 0) 29) := Y4.out.win hW5 (by omega)
  have P5 : Hid (HP w2.heap.size w3.heap.size w5 (.agg #[.slice xa W.length xc, .int .i64 t, .slice za n zc]) W t n (dropE n E i)) := ⟨_, _, M, rfl, m1, m2, PX4.out.win hW5 (.inl (Nat.le_refl _)), hZ5⟩
  have B5 : Hid (Below w.heap.size w w5) := B4.out.trans (hW5.below (by omega) (by omega))
  have S5 := hW5.size
  clear hQ hZ5 hW5
  have q0 := Q5.out.c0
  have q1 := Q5.out.c1
  have q2 := Q5.out.c2
  generalize hLL : liveB n E i = LL
  have r0 := Y5.out.c0
  have r1 := Y5.out.c1
  have r2 := Y5.out.c2
  have f0 := Y5.out.free 0
  have f1 := Y5.out.free 1
  have f2 := Y5.out.free 2
  go_wp2
  clear r0 r1 r2 f0 f1 f2
  generalize hZ : ((w5.setCell ⟨w.heap.size + 1, 0, none⟩ (.slice xa W.length xc)).setCell ⟨w.heap.size + 1, 1, none⟩ (.int .i64 t)).setCell ⟨w.heap.size + 1, 2, none⟩ (.slice za n zc) = wz
  have YZ : Box3 wz (w.heap.size + 1) (.slice xa W.length xc) (.int .i64 t) (.slice za n zc) 29 := by rw [← hZ]; exact ((Y5.out.set0 _).set1 _).set2 _
  have WZ : Win (w.heap.size + 1) (w.heap.size + 1 + 1) w5 wz := by rw [← hZ]; exact ((win_setCell _ _ _ _).trans (win_setCell _ _ _ _)).trans (win_setCell _ _ _ _)
  have BZ : Below w.heap.size w wz := by rw [← hZ]; exact below_setCell (below_setCell (below_setCell B5.out (by omega) _ _) (by omega) _ _) (by omega) _ _
  have v0 := YZ.c0
  have v1 := YZ.c1
  have v2 := YZ.c2
  refine bodyPost_ret (v := .tuple #[.agg #[.slice xa W.length xc, .int .i64 t, .slice za n zc], .bool LL]) (by simp [results, Try.results12, go_sem, v0, v1, v2]) rfl ?_

  exact ⟨_, rfl, (P5.out.win WZ (.inr (by omega))).mono (by omega) (by have := WZ.size; omega), BZ⟩
end Go.Proofs.Ytalcallmkbdnlab
