/-
  Walks: HeapPack whole, of the specification and of the program.
-/
import Derived.Test.YtlnaodjhkchgjaaHeapK2
import Derived.Test.YtlnaodjhkchgjaaHeapK3
namespace Go.Proofs.Ytlnaodjhkchgjaa
open Go.RowKit
set_option linter.unusedVariables false
set_option linter.unusedSimpArgs false
/-- The packed heap: its words, its top, how many cells, its cells. -/
noncomputable def packW (W : List Int) (t : Int) (n : Nat) (E : Nat → Cel) : List Int := if hOkB W.length t n E = true then pkX W E (ordH E n) (ordH E n).length ++ List.replicate (W.length - offs E (ordH E n) (ordH E n).length) 0 else []
noncomputable def packT (W : List Int) (t : Int) (n : Nat) (E : Nat → Cel) : Int := if hOkB W.length t n E = true then ((offs E (ordH E n) (ordH E n).length : Nat) : Int) else 0
noncomputable def packN (W : List Int) (t : Int) (n : Nat) (E : Nat → Cel) : Nat := if hOkB W.length t n E = true then n else 0
noncomputable def packE (E : Nat → Cel) (n : Nat) : Nat → Cel := pkC E (ordH E n) (fun _ => cel0) (ordH E n).length
theorem packW_len {W : List Int} {t : Int} {n : Nat} {E : Nat → Cel} (h : W.length ≤ 1048576) : (packW W t n E).length ≤ 1048576 := by
  unfold packW
  split
  · rename_i hk
    rw [(pk_lenS (hOkB_iff.1 hk) (ordH_ord E n) (Nat.le_refl _)).2]
    exact h
  · simp
theorem packN_le {W : List Int} {t : Int} {n : Nat} {E : Nat → Cel} (h : n ≤ 1048576) : packN W t n E ≤ 1048576 := by
  unfold packN
  split <;> omega
theorem pack_specH {w : World} {v : Value} {W : List Int} {t : Int} {n : Nat} {E : Nat → Cel} (h : HI w v W t n E) (hk : hOkB W.length t n E = true) :
    Calls Try.prog 31 #[v] w fun e w' => ∃ v', e = .returned v' ∧ HX w.heap.size w'.heap.size w' v' (packW W t n E) (packT W t n E) (packN W t n E) (packE E n) ∧ Below w.heap.size w w' := by
  have ok := hOkB_iff.1 hk
  refine (pack_spec h ok (ordH_ord E n)).mono ?_
  rintro e w' ⟨v', rfl, hX, hb⟩
  refine ⟨v', rfl, ?_, hb⟩
  unfold packW packT packN packE
  rw [if_pos hk, if_pos hk, if_pos hk]
  exact hX.congr fun i hi => (pkC_end ok (ordH_ord E n) hi).symm
theorem packed_implH (hS : SortsBy) (hS0 : SortsNone) {w : World} {v : Value} {W : List Int} {t : Int} {n : Nat} {E : Nat → Cel} (h : HI w v W t n E) (hk : hOkB W.length t n E = true) :
    Calls Try.prog 34 #[v] w fun e w' => ∃ v', e = .returned v' ∧ HX w.heap.size w'.heap.size w' v' (packW W t n E) (packT W t n E) (packN W t n E) (packE E n) ∧ Below w.heap.size w w' := by
  have ok := hOkB_iff.1 hk
  refine (packed_impl hS hS0 h ok).mono ?_
  rintro e w' ⟨v', hs, rfl, hO, hX, hb⟩
  obtain rfl := ord_unique ok hO (ordH_ord E n)
  refine ⟨v', rfl, ?_, hb⟩
  unfold packW packT packN packE
  rw [if_pos hk, if_pos hk, if_pos hk]
  exact hX
set_option maxRecDepth 20000 in
set_option maxHeartbeats 16000000 in
theorem heapPack_spec {w : World} {v : Value} {W : List Int} {t : Int} {n : Nat} {E : Nat → Cel} (h : HI w v W t n E) (he : (∀ i, in64 (E i).f ∧ in64 (E i).l) ∧ in64 t) (hW : W.length ≤ 1048576) (hn : n ≤ 1048576) :
    Calls Try.prog 8 #[v] w fun e w' => ∃ v', e = .returned (.tuple #[v', .bool (hOkB W.length t n E)]) ∧ HX w.heap.size w'.heap.size w' v' (packW W t n E) (packT W t n E) (packN W t n E) (packE E n) ∧ Below w.heap.size w w' := by
  have CK : Hid (∀ W', Below w.heap.size w W' → Calls Try.prog 30 #[v] W' fun e w' => e = .returned (.bool (hOkB W.length t n E)) ∧ Below W'.heap.size W' w') := fun W' hb => heapOk_spec (h.keep hb) he hW hn
  have CP : Hid (hOkB W.length t n E = true → ∀ W', Below w.heap.size w W' → Calls Try.prog 31 #[v] W' fun e w' => ∃ v', e = .returned v' ∧ HX W'.heap.size w'.heap.size w' v' (packW W t n E) (packT W t n E) (packN W t n E) (packE E n) ∧ Below W'.heap.size W' w') := fun hk W' hb => pack_specH (h.keep hb) hk
  obtain ⟨wa, wc, ca, cc, rfl, h1, h2, h3, h4⟩ := h
  clear h1 h2 h3 h4 he
  go_enter Try.func8, Try.ntmps8
  go_wp2_with fail
  generalize hV : (w.alloc (.cells #[.slice wa W.length wc, .int .i64 t, .slice ca n cc] 29)).alloc (.cells #[.slice none 0 0, .int .i64 0, .slice none 0 0] 29) = V
  have B1 : Hid (Below w.heap.size w V) := by rw [← hV]; exact bAlloc (bAlloc (Below.refl _ _) _) _
  have X1 : Hid (Box3 V w.heap.size (.slice wa W.length wc) (.int .i64 t) (.slice ca n cc) 29) := by rw [← hV]; exact (box3_new _ _ _ _ _).alloc _
  have Y1 : Hid (Box3 V (w.heap.size + 1) (.slice none 0 0) (.int .i64 0) (.slice none 0 0) 29) := by
    have := box3_new (w.alloc (.cells #[.slice wa W.length wc, .int .i64 t, .slice ca n cc] 29)) (.slice none 0 0) (.int .i64 0) (.slice none 0 0) 29
    show Box3 _ _ _ _ _ _
    rw [← hV]; simpa using this
  clear hV
  refine (CK.out _ B1.out).mono ?_
  rintro r w2 ⟨rfl, hb⟩
  have B2 : Hid (Below w.heap.size w w2) := bTrans B1.out hb
  have X2 : Hid (Box3 w2 w.heap.size (.slice wa W.length wc) (.int .i64 t) (.slice ca n cc) 29) := X1.out.keep hb
  have Y2 : Hid (Box3 w2 (w.heap.size + 1) (.slice none 0 0) (.int .i64 0) (.slice none 0 0) 29) := Y1.out.keep hb
  clear hb B1 X1 Y1
  by_cases kk : hOkB W.length t n E = true
  case neg =>
    have e1 : hOkB W.length t n E = false := by simpa using kk
    rw [e1]
    have r0 := Y2.out.c0
    have r1 := Y2.out.c1
    have r2 := Y2.out.c2
    have f0 := Y2.out.free 0
    have f1 := Y2.out.free 1
    have f2 := Y2.out.free 2
    go_wp2
    clear r0 r1 r2 f0 f1 f2
    generalize hZ : ((w2.setCell ⟨w.heap.size + 1, 0, none⟩ (.slice none 0 0)).setCell ⟨w.heap.size + 1, 1, none⟩ (.int .i64 0)).setCell ⟨w.heap.size + 1, 2, none⟩ (.slice none 0 0) = wz
    have YZ : Box3 wz (w.heap.size + 1) (.slice none 0 0) (.int .i64 0) (.slice none 0 0) 29 := by rw [← hZ]; exact ((Y2.out.set0 _).set1 _).set2 _
    have BZ : Below w.heap.size w wz := by rw [← hZ]; exact below_setCell (below_setCell (below_setCell B2.out (by omega) _ _) (by omega) _ _) (by omega) _ _
    have v0 := YZ.c0
    have v1 := YZ.c1
    have v2 := YZ.c2
    refine bodyPost_ret (v := .tuple #[.agg #[.slice none 0 0, .int .i64 0, .slice none 0 0], .bool false]) (by simp [results, Try.results8, go_sem, v0, v1, v2]) rfl ?_
    have e9 : packW W t n E = [] ∧ packT W t n E = 0 ∧ packN W t n E = 0 := by unfold packW packT packN; rw [if_neg kk, if_neg kk, if_neg kk]; exact ⟨rfl, rfl, rfl⟩
    rw [e9.1, e9.2.1, e9.2.2, e1]
    exact ⟨_, rfl, (HP.zero _ _ BZ.size _ _).hx, BZ⟩
  case pos =>
  have OK : Hid (hOk W.length t n E) := hOkB_iff.1 kk
  have x0 := X2.out.c0
  have x1 := X2.out.c1
  have x2 := X2.out.c2
  have CQ : Hid (∀ W', Below w.heap.size w W' → Calls Try.prog 31 #[.agg #[.slice wa W.length wc, .int .i64 t, .slice ca n cc]] W' fun e w' => ∃ v', e = .returned v' ∧ HX W'.heap.size w'.heap.size w' v' (packW W t n E) (packT W t n E) (packN W t n E) (packE E n) ∧ Below W'.heap.size W' w') := CP.out kk
  clear CP CK
  rw [kk]
  go_wp2_with fail
  refine (CQ.out _ B2.out).mono ?_
  rintro r w3 ⟨v3, rfl, hP, hb⟩
  have B3 : Hid (Below w.heap.size w w3) := bTrans B2.out hb
  have Y3 : Hid (Box3 w3 (w.heap.size + 1) (.slice none 0 0) (.int .i64 0) (.slice none 0 0) 29) := Y2.out.keep hb
  have P3 : Hid (HX w2.heap.size w3.heap.size w3 v3 (packW W t n E) (packT W t n E) (packN W t n E) (packE E n)) := hP
  have L2 := Y2.out.lt
  have S3 := hb.size
  obtain ⟨xa, xc, za, zc, rfl⟩ := hP.form
  clear hP hb x0 x1 x2
  have r0 := Y3.out.c0
  have r1 := Y3.out.c1
  have r2 := Y3.out.c2
  have f0 := Y3.out.free 0
  have f1 := Y3.out.free 1
  have f2 := Y3.out.free 2
  go_wp2
  clear r0 r1 r2 f0 f1 f2
  generalize hZ : ((w3.setCell ⟨w.heap.size + 1, 0, none⟩ (.slice xa (packW W t n E).length xc)).setCell ⟨w.heap.size + 1, 1, none⟩ (.int .i64 (packT W t n E))).setCell ⟨w.heap.size + 1, 2, none⟩ (.slice za (packN W t n E) zc) = wz
  have YZ : Box3 wz (w.heap.size + 1) (.slice xa (packW W t n E).length xc) (.int .i64 (packT W t n E)) (.slice za (packN W t n E) zc) 29 := by rw [← hZ]; exact ((Y3.out.set0 _).set1 _).set2 _
  have WZ : Win (w.heap.size + 1) (w.heap.size + 1 + 1) w3 wz := by rw [← hZ]; exact ((win_setCell _ _ _ _).trans (win_setCell _ _ _ _)).trans (win_setCell _ _ _ _)
  have BZ : Below w.heap.size w wz := by rw [← hZ]; exact below_setCell (below_setCell (below_setCell B3.out (by omega) _ _) (by omega) _ _) (by omega) _ _
  have v0 := YZ.c0
  have v1 := YZ.c1
  have v2 := YZ.c2
  refine bodyPost_ret (v := .tuple #[.agg #[.slice xa (packW W t n E).length xc, .int .i64 (packT W t n E), .slice za (packN W t n E) zc], .bool true]) (by simp [results, Try.results8, go_sem, v0, v1, v2]) rfl ?_
  rw [kk]
  exact ⟨_, rfl, (P3.out.win WZ (.inr (by omega))).mono (by omega) WZ.size, BZ⟩
set_option maxRecDepth 20000 in
set_option maxHeartbeats 16000000 in
theorem heapPack_impl (hS : SortsBy) (hS0 : SortsNone) {w : World} {v : Value} {W : List Int} {t : Int} {n : Nat} {E : Nat → Cel} (h : HI w v W t n E) (he : (∀ i, in64 (E i).f ∧ in64 (E i).l) ∧ in64 t) (hW : W.length ≤ 1048576) (hn : n ≤ 1048576) :
    Calls Try.prog 10 #[v] w fun e w' => ∃ v', e = .returned (.tuple #[v', .bool (hOkB W.length t n E)]) ∧ HX w.heap.size w'.heap.size w' v' (packW W t n E) (packT W t n E) (packN W t n E) (packE E n) ∧ Below w.heap.size w w' := by
  have CK : Hid (∀ W', Below w.heap.size w W' → Calls Try.prog 27 #[v] W' fun e w' => e = .returned (.bool (hOkB W.length t n E)) ∧ Below W'.heap.size W' w') := fun W' hb => heapOk_impl hS hS0 (h.keep hb) he hW hn
  have CP : Hid (hOkB W.length t n E = true → ∀ W', Below w.heap.size w W' → Calls Try.prog 34 #[v] W' fun e w' => ∃ v', e = .returned v' ∧ HX W'.heap.size w'.heap.size w' v' (packW W t n E) (packT W t n E) (packN W t n E) (packE E n) ∧ Below W'.heap.size W' w') := fun hk W' hb => packed_implH hS hS0 (h.keep hb) hk
  obtain ⟨wa, wc, ca, cc, rfl, h1, h2, h3, h4⟩ := h
  clear h1 h2 h3 h4 he
  go_enter Try.func10, Try.ntmps10
  go_wp2_with fail
  generalize hV : (w.alloc (.cells #[.slice wa W.length wc, .int .i64 t, .slice ca n cc] 29)).alloc (.cells #[.slice none 0 0, .int .i64 0, .slice none 0 0] 29) = V
  have B1 : Hid (Below w.heap.size w V) := by rw [← hV]; exact bAlloc (bAlloc (Below.refl _ _) _) _
  have X1 : Hid (Box3 V w.heap.size (.slice wa W.length wc) (.int .i64 t) (.slice ca n cc) 29) := by rw [← hV]; exact (box3_new _ _ _ _ _).alloc _
  have Y1 : Hid (Box3 V (w.heap.size + 1) (.slice none 0 0) (.int .i64 0) (.slice none 0 0) 29) := by
    have := box3_new (w.alloc (.cells #[.slice wa W.length wc, .int .i64 t, .slice ca n cc] 29)) (.slice none 0 0) (.int .i64 0) (.slice none 0 0) 29
    show Box3 _ _ _ _ _ _
    rw [← hV]; simpa using this
  clear hV
  refine (CK.out _ B1.out).mono ?_
  rintro r w2 ⟨rfl, hb⟩
  have B2 : Hid (Below w.heap.size w w2) := bTrans B1.out hb
  have X2 : Hid (Box3 w2 w.heap.size (.slice wa W.length wc) (.int .i64 t) (.slice ca n cc) 29) := X1.out.keep hb
  have Y2 : Hid (Box3 w2 (w.heap.size + 1) (.slice none 0 0) (.int .i64 0) (.slice none 0 0) 29) := Y1.out.keep hb
  clear hb B1 X1 Y1
  by_cases kk : hOkB W.length t n E = true
  case neg =>
    have e1 : hOkB W.length t n E = false := by simpa using kk
    rw [e1]
    have r0 := Y2.out.c0
    have r1 := Y2.out.c1
    have r2 := Y2.out.c2
    have f0 := Y2.out.free 0
    have f1 := Y2.out.free 1
    have f2 := Y2.out.free 2
    go_wp2
    clear r0 r1 r2 f0 f1 f2
    generalize hZ : ((w2.setCell ⟨w.heap.size + 1, 0, none⟩ (.slice none 0 0)).setCell ⟨w.heap.size + 1, 1, none⟩ (.int .i64 0)).setCell ⟨w.heap.size + 1, 2, none⟩ (.slice none 0 0) = wz
    have YZ : Box3 wz (w.heap.size + 1) (.slice none 0 0) (.int .i64 0) (.slice none 0 0) 29 := by rw [← hZ]; exact ((Y2.out.set0 _).set1 _).set2 _
    have BZ : Below w.heap.size w wz := by rw [← hZ]; exact below_setCell (below_setCell (below_setCell B2.out (by omega) _ _) (by omega) _ _) (by omega) _ _
    have v0 := YZ.c0
    have v1 := YZ.c1
    have v2 := YZ.c2
    refine bodyPost_ret (v := .tuple #[.agg #[.slice none 0 0, .int .i64 0, .slice none 0 0], .bool false]) (by simp [results, Try.results10, go_sem, v0, v1, v2]) rfl ?_
    have e9 : packW W t n E = [] ∧ packT W t n E = 0 ∧ packN W t n E = 0 := by unfold packW packT packN; rw [if_neg kk, if_neg kk, if_neg kk]; exact ⟨rfl, rfl, rfl⟩
    rw [e9.1, e9.2.1, e9.2.2, e1]
    exact ⟨_, rfl, (HP.zero _ _ BZ.size _ _).hx, BZ⟩
  case pos =>
  have OK : Hid (hOk W.length t n E) := hOkB_iff.1 kk
  have x0 := X2.out.c0
  have x1 := X2.out.c1
  have x2 := X2.out.c2
  have CQ : Hid (∀ W', Below w.heap.size w W' → Calls Try.prog 34 #[.agg #[.slice wa W.length wc, .int .i64 t, .slice ca n cc]] W' fun e w' => ∃ v', e = .returned v' ∧ HX W'.heap.size w'.heap.size w' v' (packW W t n E) (packT W t n E) (packN W t n E) (packE E n) ∧ Below W'.heap.size W' w') := CP.out kk
  clear CP CK
  rw [kk]
  go_wp2_with fail
  refine (CQ.out _ B2.out).mono ?_
  rintro r w3 ⟨v3, rfl, hP, hb⟩
  have B3 : Hid (Below w.heap.size w w3) := bTrans B2.out hb
  have Y3 : Hid (Box3 w3 (w.heap.size + 1) (.slice none 0 0) (.int .i64 0) (.slice none 0 0) 29) := Y2.out.keep hb
  have P3 : Hid (HX w2.heap.size w3.heap.size w3 v3 (packW W t n E) (packT W t n E) (packN W t n E) (packE E n)) := hP
  have L2 := Y2.out.lt
  have S3 := hb.size
  obtain ⟨xa, xc, za, zc, rfl⟩ := hP.form
  clear hP hb x0 x1 x2
  have r0 := Y3.out.c0
  have r1 := Y3.out.c1
  have r2 := Y3.out.c2
  have f0 := Y3.out.free 0
  have f1 := Y3.out.free 1
  have f2 := Y3.out.free 2
  go_wp2
  clear r0 r1 r2 f0 f1 f2
  generalize hZ : ((w3.setCell ⟨w.heap.size + 1, 0, none⟩ (.slice xa (packW W t n E).length xc)).setCell ⟨w.heap.size + 1, 1, none⟩ (.int .i64 (packT W t n E))).setCell ⟨w.heap.size + 1, 2, none⟩ (.slice za (packN W t n E) zc) = wz
  have YZ : Box3 wz (w.heap.size + 1) (.slice xa (packW W t n E).length xc) (.int .i64 (packT W t n E)) (.slice za (packN W t n E) zc) 29 := by rw [← hZ]; exact ((Y3.out.set0 _).set1 _).set2 _
  have WZ : Win (w.heap.size + 1) (w.heap.size + 1 + 1) w3 wz := by rw [← hZ]; exact ((win_setCell _ _ _ _).trans (win_setCell _ _ _ _)).trans (win_setCell _ _ _ _)
  have BZ : Below w.heap.size w wz := by rw [← hZ]; exact below_setCell (below_setCell (below_setCell B3.out (by omega) _ _) (by omega) _ _) (by omega) _ _
  have v0 := YZ.c0
  have v1 := YZ.c1
  have v2 := YZ.c2
  refine bodyPost_ret (v := .tuple #[.agg #[.slice xa (packW W t n E).length xc, .int .i64 (packT W t n E), .slice za (packN W t n E) zc], .bool true]) (by simp [results, Try.results10, go_sem, v0, v1, v2]) rfl ?_
  rw [kk]
  exact ⟨_, rfl, (P3.out.win WZ (.inr (by omega))).mono (by omega) WZ.size, BZ⟩
end Go.Proofs.Ytlnaodjhkchgjaa
