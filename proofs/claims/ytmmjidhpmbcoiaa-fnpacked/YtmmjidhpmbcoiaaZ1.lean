/-
  Several walks, one behind the other: HeapP, OutB, ImplConcat, Grow2, HeapY, LeadM, HeapQ, HeapQ1, HeapQ2, HeapG1, HeapU, HeapA, HeapL, HeapR, HeapR2, ImplArr1, ImplPlace, ImplShape, SpecArr2, ImplArr3, HeapR3.
-/
import Derived.Test.YtmmjidhpmbcoiaaHeapK2
import Derived.Test.YtmmjidhpmbcoiaaHeapK3
import Derived.Test.YtmmjidhpmbcoiaaGrow
import Derived.Test.YtmmjidhpmbcoiaaArrs
import Derived.Test.YtmmjidhpmbcoiaaCutI
import Derived.Lib.AppendZeros
import Derived.Test.YtmmjidhpmbcoiaaArr
import Derived.Test.YtmmjidhpmbcoiaaLaw3
import Derived.Deep.Cut
import Derived.Test.YtmmjidhpmbcoiaaBase
import Derived.Test.YtmmjidhpmbcoiaaHeapCap
import Derived.Test.YtmmjidhpmbcoiaaHeapC2
import Derived.Test.YtmmjidhpmbcoiaaHeapS1
import Derived.Test.YtmmjidhpmbcoiaaSpecArr
import Derived.Test.YtmmjidhpmbcoiaaHeapT
import Derived.Test.YtmmjidhpmbcoiaaHeapI3
import Derived.Deep.RegionHeld3
import Derived.Defers
import Derived.Recover
import Derived.Test.YtmmjidhpmbcoiaaArrM
import Derived.Test.YtmmjidhpmbcoiaaNumOk
import Derived.Test.YtmmjidhpmbcoiaaImplShape0
import Derived.Laws.StructEq
import Derived.Test.YtmmjidhpmbcoiaaAppend
import Derived.OwnWalk
import Derived.Laws.ResultCell
import Derived.Test.YtmmjidhpmbcoiaaImplArr2
namespace Go.Proofs.Ytmmjidhpmbcoiaa
open Go.RowKit
set_option linter.unusedVariables false
set_option linter.unusedSimpArgs false
/-- The packed heap: its words, its top, how many cells, its cells. -/
noncomputable def packW (W : List Int) (t : Int) (n : Nat) (E : Nat → Cel) : List Int := if hOkB W.length t n E = true then pkX W E (ordH E n) (ordH E n).length ++ List.replicate (W.length - offs E (ordH E n) (ordH E n).length) 0 else []
noncomputable def packT (W : List Int) (t : Int) (n : Nat) (E : Nat → Cel) : Int := if hOkB W.length t n E = true then ((offs E (ordH E n) (ordH E n).length : Nat) : Int) else 0
noncomputable def packN (W : List Int) (t : Int) (n : Nat) (E : Nat → Cel) : Nat := if hOkB W.length t n E = true then n else 0
noncomputable def packE (E : Nat → Cel) (n : Nat) : Nat → Cel := pkC E (ordH E n) (fun _ => cel0) (ordH E n).length
theorem packW_len {W : List Int} {t : Int} {n : Nat} {E : Nat → Cel} (h : W.length ≤ 1048576) : (packW W t n E).length ≤ 1048576 := by
  unfold packW
  split
  · rename_i hk
    rw [(pk_lenS (hOkB_iff.1 hk) (ordH_ord E n) (Nat.le_refl _)).2]
    exact h
  · simp
theorem packN_le {W : List Int} {t : Int} {n : Nat} {E : Nat → Cel} (h : n ≤ 1048576) : packN W t n E ≤ 1048576 := by
  unfold packN
  split <;> omega
theorem pack_specH {w : World} {v : Value} {W : List Int} {t : Int} {n : Nat} {E : Nat → Cel} (h : HI w v W t n E) (hk : hOkB W.length t n E = true) :
    Calls Try.prog 62 #[v] w fun e w' => ∃ v', e = .returned v' ∧ HX w.heap.size w'.heap.size w' v' (packW W t n E) (packT W t n E) (packN W t n E) (packE E n) ∧ Below w.heap.size w w' := by
  have ok := hOkB_iff.1 hk
  refine (pack_spec h ok (ordH_ord E n)).mono ?_
  rintro e w' ⟨v', rfl, hX, hb⟩
  refine ⟨v', rfl, ?_, hb⟩
  unfold packW packT packN packE
  rw [if_pos hk, if_pos hk, if_pos hk]
  exact hX.congr fun i hi => (pkC_end ok (ordH_ord E n) hi).symm
theorem packed_implH (hS : SortsBy) (hS0 : SortsNone) {w : World} {v : Value} {W : List Int} {t : Int} {n : Nat} {E : Nat → Cel} (h : HI w v W t n E) (hk : hOkB W.length t n E = true) :
    Calls Try.prog 61 #[v] w fun e w' => ∃ v', e = .returned v' ∧ HX w.heap.size w'.heap.size w' v' (packW W t n E) (packT W t n E) (packN W t n E) (packE E n) ∧ Below w.heap.size w w' := by
  have ok := hOkB_iff.1 hk
  refine (packed_impl hS hS0 h ok).mono ?_
  rintro e w' ⟨v', hs, rfl, hO, hX, hb⟩
  obtain rfl := ord_unique ok hO (ordH_ord E n)
  refine ⟨v', rfl, ?_, hb⟩
  unfold packW packT packN packE
  rw [if_pos hk, if_pos hk, if_pos hk]
  exact hX
set_option maxRecDepth 20000 in
set_option maxHeartbeats 16000000 in
theorem heapPack_spec {w : World} {v : Value} {W : List Int} {t : Int} {n : Nat} {E : Nat → Cel} (h : HI w v W t n E) (he : (∀ i, in64 (E i).f ∧ in64 (E i).l) ∧ in64 t) (hW : W.length ≤ 1048576) (hn : n ≤ 1048576) :
    Calls Try.prog 28 #[v] w fun e w' => ∃ v', e = .returned (.tuple #[v', .bool (hOkB W.length t n E)]) ∧ HX w.heap.size w'.heap.size w' v' (packW W t n E) (packT W t n E) (packN W t n E) (packE E n) ∧ Below w.heap.size w w' := by
  have CK : Hid (∀ W', Below w.heap.size w W' → Calls Try.prog 25 #[v] W' fun e w' => e = .returned (.bool (hOkB W.length t n E)) ∧ Below W'.heap.size W' w') := fun W' hb => heapOk_spec (h.keep hb) he hW hn
  have CP : Hid (hOkB W.length t n E = true → ∀ W', Below w.heap.size w W' → Calls Try.prog 62 #[v] W' fun e w' => ∃ v', e = .returned v' ∧ HX W'.heap.size w'.heap.size w' v' (packW W t n E) (packT W t n E) (packN W t n E) (packE E n) ∧ Below W'.heap.size W' w') := fun hk W' hb => pack_specH (h.keep hb) hk
  obtain ⟨wa, wc, ca, cc, rfl, h1, h2, h3, h4⟩ := h
  clear h1 h2 h3 h4 he
  go_enter Try.func28, Try.ntmps28
  go_wp2_with fail
  generalize hV : (w.alloc (.cells #[.slice wa W.length wc, .int .i64 t, .slice ca n cc] 28)).alloc (.cells #[.slice none 0 0, .int .i64 0, .slice none 0 0] 28) = V
  have B1 : Hid (Below w.heap.size w V) := by rw [← hV]; exact bAlloc (bAlloc (Below.refl _ _) _) _
  have X1 : Hid (Box3 V w.heap.size (.slice wa W.length wc) (.int .i64 t) (.slice ca n cc) 28) := by rw [← hV]; exact (box3_new _ _ _ _ _).alloc _
  have Y1 : Hid (Box3 V (w.heap.size + 1) (.slice none 0 0) (.int .i64 0) (.slice none 0 0) 28) := by
    have := box3_new (w.alloc (.cells #[.slice wa W.length wc, .int .i64 t, .slice ca n cc] 28)) (.slice none 0 0) (.int .i64 0) (.slice none 0 0) 28
    show Box3 _ _ _ _ _ _
    rw [← hV]; simpa using this
  clear hV
  refine (CK.out _ B1.out).mono ?_
  rintro r w2 ⟨rfl, hb⟩
  have B2 : Hid (Below w.heap.size w w2) := bTrans B1.out hb
  have X2 : Hid (Box3 w2 w.heap.size (.slice wa W.length wc) (.int .i64 t) (.slice ca n cc) 28) := X1.out.keep hb
  have Y2 : Hid (Box3 w2 (w.heap.size + 1) (.slice none 0 0) (.int .i64 0) (.slice none 0 0) 28) := Y1.out.keep hb
  clear hb B1 X1 Y1
  by_cases kk : hOkB W.length t n E = true
  case neg =>
    have e1 : hOkB W.length t n E = false := by simpa using kk
    rw [e1]
    have r0 := Y2.out.c0
    have r1 := Y2.out.c1
    have r2 := Y2.out.c2
    have f0 := Y2.out.free 0
    have f1 := Y2.out.free 1
    have f2 := Y2.out.free 2
    go_wp2
    clear r0 r1 r2 f0 f1 f2
    generalize hZ : ((w2.setCell ⟨w.heap.size + 1, 0, none⟩ (.slice none 0 0)).setCell ⟨w.heap.size + 1, 1, none⟩ (.int .i64 0)).setCell ⟨w.heap.size + 1, 2, none⟩ (.slice none 0 0) = wz
    have YZ : Box3 wz (w.heap.size + 1) (.slice none 0 0) (.int .i64 0) (.slice none 0 0) 28 := by rw [← hZ]; exact ((Y2.out.set0 _).set1 _).set2 _
    have BZ : Below w.heap.size w wz := by rw [← hZ]; exact below_setCell (below_setCell (below_setCell B2.out (by omega) _ _) (by omega) _ _) (by omega) _ _
    have v0 := YZ.c0
    have v1 := YZ.c1
    have v2 := YZ.c2
    refine bodyPost_ret (v := .tuple #[.agg #[.slice none 0 0, .int .i64 0, .slice none 0 0], .bool false]) (by simp [results, Try.results28, go_sem, v0, v1, v2]) rfl ?_
    have e9 : packW W t n E = [] ∧ packT W t n E = 0 ∧ packN W t n E = 0 := by unfold packW packT packN; rw [if_neg kk, if_neg kk, if_neg kk]; exact ⟨rfl, rfl, rfl⟩
    rw [e9.1, e9.2.1, e9.2.2, e1]
    exact ⟨_, rfl, (HP.zero _ _ BZ.size _ _).hx, BZ⟩
  case pos =>
  have OK : Hid (hOk W.length t n E) := hOkB_iff.1 kk
  have x0 := X2.out.c0
  have x1 := X2.out.c1
  have x2 := X2.out.c2
  have CQ : Hid (∀ W', Below w.heap.size w W' → Calls Try.prog 62 #[.agg #[.slice wa W.length wc, .int .i64 t, .slice ca n cc]] W' fun e w' => ∃ v', e = .returned v' ∧ HX W'.heap.size w'.heap.size w' v' (packW W t n E) (packT W t n E) (packN W t n E) (packE E n) ∧ Below W'.heap.size W' w') := CP.out kk
  clear CP CK
  rw [kk]
  go_wp2_with fail
  refine (CQ.out _ B2.out).mono ?_
  rintro r w3 ⟨v3, rfl, hP, hb⟩
  have B3 : Hid (Below w.heap.size w w3) := bTrans B2.out hb
  have Y3 : Hid (Box3 w3 (w.heap.size + 1) (.slice none 0 0) (.int .i64 0) (.slice none 0 0) 28) := Y2.out.keep hb
  have P3 : Hid (HX w2.heap.size w3.heap.size w3 v3 (packW W t n E) (packT W t n E) (packN W t n E) (packE E n)) := hP
  have L2 := Y2.out.lt
  have S3 := hb.size
  obtain ⟨xa, xc, za, zc, rfl⟩ := hP.form
  clear hP hb x0 x1 x2
  have r0 := Y3.out.c0
  have r1 := Y3.out.c1
  have r2 := Y3.out.c2
  have f0 := Y3.out.free 0
  have f1 := Y3.out.free 1
  have f2 := Y3.out.free 2
  go_wp2
  clear r0 r1 r2 f0 f1 f2
  generalize hZ : ((w3.setCell ⟨w.heap.size + 1, 0, none⟩ (.slice xa (packW W t n E).length xc)).setCell ⟨w.heap.size + 1, 1, none⟩ (.int .i64 (packT W t n E))).setCell ⟨w.heap.size + 1, 2, none⟩ (.slice za (packN W t n E) zc) = wz
  have YZ : Box3 wz (w.heap.size + 1) (.slice xa (packW W t n E).length xc) (.int .i64 (packT W t n E)) (.slice za (packN W t n E) zc) 28 := by rw [← hZ]; exact ((Y3.out.set0 _).set1 _).set2 _
  have WZ : Win (w.heap.size + 1) (w.heap.size + 1 + 1) w3 wz := by rw [← hZ]; exact ((win_setCell _ _ _ _).trans (win_setCell _ _ _ _)).trans (win_setCell _ _ _ _)
  have BZ : Below w.heap.size w wz := by rw [← hZ]; exact below_setCell (below_setCell (below_setCell B3.out (by omega) _ _) (by omega) _ _) (by omega) _ _
  have v0 := YZ.c0
  have v1 := YZ.c1
  have v2 := YZ.c2
  refine bodyPost_ret (v := .tuple #[.agg #[.slice xa (packW W t n E).length xc, .int .i64 (packT W t n E), .slice za (packN W t n E) zc], .bool true]) (by simp [results, Try.results28, go_sem, v0, v1, v2]) rfl ?_
  rw [kk]
  exact ⟨_, rfl, (P3.out.win WZ (.inr (by omega))).mono (by omega) WZ.size, BZ⟩
set_option maxRecDepth 20000 in
set_option maxHeartbeats 16000000 in
theorem heapPack_impl (hS : SortsBy) (hS0 : SortsNone) {w : World} {v : Value} {W : List Int} {t : Int} {n : Nat} {E : Nat → Cel} (h : HI w v W t n E) (he : (∀ i, in64 (E i).f ∧ in64 (E i).l) ∧ in64 t) (hW : W.length ≤ 1048576) (hn : n ≤ 1048576) :
    Calls Try.prog 26 #[v] w fun e w' => ∃ v', e = .returned (.tuple #[v', .bool (hOkB W.length t n E)]) ∧ HX w.heap.size w'.heap.size w' v' (packW W t n E) (packT W t n E) (packN W t n E) (packE E n) ∧ Below w.heap.size w w' := by
  have CK : Hid (∀ W', Below w.heap.size w W' → Calls Try.prog 16 #[v] W' fun e w' => e = .returned (.bool (hOkB W.length t n E)) ∧ Below W'.heap.size W' w') := fun W' hb => heapOk_impl hS hS0 (h.keep hb) he hW hn
  have CP : Hid (hOkB W.length t n E = true → ∀ W', Below w.heap.size w W' → Calls Try.prog 61 #[v] W' fun e w' => ∃ v', e = .returned v' ∧ HX W'.heap.size w'.heap.size w' v' (packW W t n E) (packT W t n E) (packN W t n E) (packE E n) ∧ Below W'.heap.size W' w') := fun hk W' hb => packed_implH hS hS0 (h.keep hb) hk
  obtain ⟨wa, wc, ca, cc, rfl, h1, h2, h3, h4⟩ := h
  clear h1 h2 h3 h4 he
  go_enter Try.func26, Try.ntmps26
  go_wp2_with fail
  generalize hV : (w.alloc (.cells #[.slice wa W.length wc, .int .i64 t, .slice ca n cc] 28)).alloc (.cells #[.slice none 0 0, .int .i64 0, .slice none 0 0] 28) = V
  have B1 : Hid (Below w.heap.size w V) := by rw [← hV]; exact bAlloc (bAlloc (Below.refl _ _) _) _
  have X1 : Hid (Box3 V w.heap.size (.slice wa W.length wc) (.int .i64 t) (.slice ca n cc) 28) := by rw [← hV]; exact (box3_new _ _ _ _ _).alloc _
  have Y1 : Hid (Box3 V (w.heap.size + 1) (.slice none 0 0) (.int .i64 0) (.slice none 0 0) 28) := by
    have := box3_new (w.alloc (.cells #[.slice wa W.length wc, .int .i64 t, .slice ca n cc] 28)) (.slice none 0 0) (.int .i64 0) (.slice none 0 0) 28
    show Box3 _ _ _ _ _ _
    rw [← hV]; simpa using this
  clear hV
  refine (CK.out _ B1.out).mono ?_
  rintro r w2 ⟨rfl, hb⟩
  have B2 : Hid (Below w.heap.size w w2) := bTrans B1.out hb
  have X2 : Hid (Box3 w2 w.heap.size (.slice wa W.length wc) (.int .i64 t) (.slice ca n cc) 28) := X1.out.keep hb
  have Y2 : Hid (Box3 w2 (w.heap.size + 1) (.slice none 0 0) (.int .i64 0) (.slice none 0 0) 28) := Y1.out.keep hb
  clear hb B1 X1 Y1
  by_cases kk : hOkB W.length t n E = true
  case neg =>
    have e1 : hOkB W.length t n E = false := by simpa using kk
    rw [e1]
    have r0 := Y2.out.c0
    have r1 := Y2.out.c1
    have r2 := Y2.out.c2
    have f0 := Y2.out.free 0
    have f1 := Y2.out.free 1
    have f2 := Y2.out.free 2
    go_wp2
    clear r0 r1 r2 f0 f1 f2
    generalize hZ : ((w2.setCell ⟨w.heap.size + 1, 0, none⟩ (.slice none 0 0)).setCell ⟨w.heap.size + 1, 1, none⟩ (.int .i64 0)).setCell ⟨w.heap.size + 1, 2, none⟩ (.slice none 0 0) = wz
    have YZ : Box3 wz (w.heap.size + 1) (.slice none 0 0) (.int .i64 0) (.slice none 0 0) 28 := by rw [← hZ]; exact ((Y2.out.set0 _).set1 _).set2 _
    have BZ : Below w.heap.size w wz := by rw [← hZ]; exact below_setCell (below_setCell (below_setCell B2.out (by omega) _ _) (by omega) _ _) (by omega) _ _
    have v0 := YZ.c0
    have v1 := YZ.c1
    have v2 := YZ.c2
    refine bodyPost_ret (v := .tuple #[.agg #[.slice none 0 0, .int .i64 0, .slice none 0 0], .bool false]) (by simp [results, Try.results26, go_sem, v0, v1, v2]) rfl ?_
    have e9 : packW W t n E = [] ∧ packT W t n E = 0 ∧ packN W t n E = 0 := by unfold packW packT packN; rw [if_neg kk, if_neg kk, if_neg kk]; exact ⟨rfl, rfl, rfl⟩
    rw [e9.1, e9.2.1, e9.2.2, e1]
    exact ⟨_, rfl, (HP.zero _ _ BZ.size _ _).hx, BZ⟩
  case pos =>
  have OK : Hid (hOk W.length t n E) := hOkB_iff.1 kk
  have x0 := X2.out.c0
  have x1 := X2.out.c1
  have x2 := X2.out.c2
  have CQ : Hid (∀ W', Below w.heap.size w W' → Calls Try.prog 61 #[.agg #[.slice wa W.length wc, .int .i64 t, .slice ca n cc]] W' fun e w' => ∃ v', e = .returned v' ∧ HX W'.heap.size w'.heap.size w' v' (packW W t n E) (packT W t n E) (packN W t n E) (packE E n) ∧ Below W'.heap.size W' w') := CP.out kk
  clear CP CK
  rw [kk]
  go_wp2_with fail
  refine (CQ.out _ B2.out).mono ?_
  rintro r w3 ⟨v3, rfl, hP, hb⟩
  have B3 : Hid (Below w.heap.size w w3) := bTrans B2.out hb
  have Y3 : Hid (Box3 w3 (w.heap.size + 1) (.slice none 0 0) (.int .i64 0) (.slice none 0 0) 28) := Y2.out.keep hb
  have P3 : Hid (HX w2.heap.size w3.heap.size w3 v3 (packW W t n E) (packT W t n E) (packN W t n E) (packE E n)) := hP
  have L2 := Y2.out.lt
  have S3 := hb.size
  obtain ⟨xa, xc, za, zc, rfl⟩ := hP.form
  clear hP hb x0 x1 x2
  have r0 := Y3.out.c0
  have r1 := Y3.out.c1
  have r2 := Y3.out.c2
  have f0 := Y3.out.free 0
  have f1 := Y3.out.free 1
  have f2 := Y3.out.free 2
  go_wp2
  clear r0 r1 r2 f0 f1 f2
  generalize hZ : ((w3.setCell ⟨w.heap.size + 1, 0, none⟩ (.slice xa (packW W t n E).length xc)).setCell ⟨w.heap.size + 1, 1, none⟩ (.int .i64 (packT W t n E))).setCell ⟨w.heap.size + 1, 2, none⟩ (.slice za (packN W t n E) zc) = wz
  have YZ : Box3 wz (w.heap.size + 1) (.slice xa (packW W t n E).length xc) (.int .i64 (packT W t n E)) (.slice za (packN W t n E) zc) 28 := by rw [← hZ]; exact ((Y3.out.set0 _).set1 _).set2 _
  have WZ : Win (w.heap.size + 1) (w.heap.size + 1 + 1) w3 wz := by rw [← hZ]; exact ((win_setCell _ _ _ _).trans (win_setCell _ _ _ _)).trans (win_setCell _ _ _ _)
  have BZ : Below w.heap.size w wz := by rw [← hZ]; exact below_setCell (below_setCell (below_setCell B3.out (by omega) _ _) (by omega) _ _) (by omega) _ _
  have v0 := YZ.c0
  have v1 := YZ.c1
  have v2 := YZ.c2
  refine bodyPost_ret (v := .tuple #[.agg #[.slice xa (packW W t n E).length xc, .int .i64 (packT W t n E), .slice za (packN W t n E) zc], .bool true]) (by simp [results, Try.results26, go_sem, v0, v1, v2]) rfl ?_
  rw [kk]
  exact ⟨_, rfl, (P3.out.win WZ (.inr (by omega))).mono (by omega) WZ.size, BZ⟩
end Go.Proofs.Ytmmjidhpmbcoiaa
namespace Go.Proofs.Ytmmjidhpmbcoiaa
open Go.RowKit
set_option linter.unusedVariables false
structure OutB (g : Nat) (W0 wr : World) (sv : Value) (ad : Option Addr) (cd k : Nat) (m : List Int) : Prop where
  box : Box wr g sv (.slice ad k cd) 32
  row : NewInts W0.heap.size wr (.slice ad k cd) m
  win : Win g (g + 1) W0 wr
  lt : g < W0.heap.size
  len : m.length = k
theorem outB_new {W : World} {g : Nat} {sv : Value} (h : Box W g sv (.slice none 0 0) 32) : OutB g W W sv none 0 0 [] :=
  ⟨h, NewInts.nil _ _, ⟨rfl, rfl, rfl, Nat.le_refl _, fun _ _ _ => rfl⟩, h.lt, rfl⟩
theorem OutB.keep {g cd k : Nat} {W0 wr w' : World} {sv : Value} {ad : Option Addr} {m : List Int} (h : OutB g W0 wr sv ad cd k m) (hb : Below wr.heap.size wr w') : OutB g W0 w' sv ad cd k m :=
  ⟨h.box.keep hb, h.row.keep hb, ⟨hb.os.trans h.win.os, hb.tape.trans h.win.tape, hb.output.trans h.win.output, Nat.le_trans h.win.size hb.size, fun k h1 h2 => (hb.block k (Nat.lt_of_lt_of_le h1 h.win.size)).trans (h.win.block k h1 h2)⟩, h.lt, h.len⟩
theorem OutB.cells {g cd k : Nat} {W0 wr : World} {sv : Value} {ad : Option Addr} {m : List Int} (h : OutB g W0 wr sv ad cd k m) : wr.cell? ⟨g, 0, none⟩ = some sv ∧ wr.cell? ⟨g, 1, none⟩ = some (.slice ad k cd) ∧ wr.frozen? ⟨g, 0, none⟩ = false ∧ wr.frozen? ⟨g, 1, none⟩ = false :=
  ⟨h.box.c0, h.box.c1, free_at h.box 0, free_at h.box 1⟩
/-- A list more. -/
theorem OutB.growL {g cd k : Nat} {W0 wr : World} {sv : Value} {ad : Option Addr} {m l : List Int} {a : Option Addr} (h : OutB g W0 wr sv ad cd k m) (hi : Ints wr a l) (hk : k + l.length ≤ 1048576) (c : Nat) :
    ∃ a' c' w', (Builtin.append_ #[25, 25] 25 #[.slice ad k cd, .slice a l.length c]).run Try.prog wr = .ok (.slice a' (k + l.length) c') w' ∧ Box w' g sv (.slice ad k cd) 32 ∧ OutB g W0 (w'.setCell ⟨g, 1, none⟩ (.slice a' (k + l.length) c')) sv a' c' (k + l.length) (m ++ l) := by
  obtain ⟨a', c', w', hr, hn, hb⟩ := Go.Proofs.Ytmmjidhpmbcoiaa.growL h.row hi h.win.size (by rw [h.len]; exact hk) c
  rw [List.length_append, h.len] at hr hn
  have hl := h.lt
  have hx : Box w' g sv (.slice ad k cd) 32 := by
    unfold Box; rw [hb.block g hl]; exact h.box
  refine ⟨a', c', w', hr, hx, ?_, ?_, ?_, hl, by simp [h.len]⟩
  · have := heap_setCell_same w' g 1 _ _ (.slice a' (k + l.length) c') hx
    unfold Box; simpa using this
  · exact hn.but ((But.refl g w').setCell 1 (.slice a' (k + l.length) c')) (by omega)
  · have s1 := win_setCell w' g 1 (.slice a' (k + l.length) c')
    have hz := h.win.size
    have hb2 := hb.size
    refine ⟨s1.os.trans (hb.os.trans h.win.os), s1.tape.trans (hb.tape.trans h.win.tape), s1.output.trans (hb.output.trans h.win.output), Nat.le_trans hz (Nat.le_trans hb2 s1.size), fun o h1 h2 => ?_⟩
    exact (s1.block o (by omega) h2).trans ((hb.block o h1).trans (h.win.block o h1 h2))
/-- One number more. -/
theorem OutB.grow1 {g cd k : Nat} {W0 wr : World} {sv : Value} {ad : Option Addr} {m : List Int} (h : OutB g W0 wr sv ad cd k m) (hk : k < 1048576) (x : Int) :
    ∃ a' c' w', (Builtin.append_ #[25, 25] 25 #[.slice ad k cd, .slice (some ⟨wr.heap.size, 0, none⟩) 1 1]).run Try.prog (wr.alloc (.cells #[.int .i64 x] 3)) = .ok (.slice a' (k + 1) c') w' ∧ Box w' g sv (.slice ad k cd) 32 ∧ OutB g W0 (w'.setCell ⟨g, 1, none⟩ (.slice a' (k + 1) c')) sv a' c' (k + 1) (m ++ [x]) := by
  obtain ⟨a', c', w', hr, hn, hb⟩ := Go.Proofs.Ytmmjidhpmbcoiaa.grow1 x h.row h.win.size (by rw [h.len]; exact hk)
  rw [h.len] at hr hn
  have hl := h.lt
  have hx : Box w' g sv (.slice ad k cd) 32 := by
    unfold Box; rw [hb.block g hl]; exact h.box
  refine ⟨a', c', w', hr, hx, ?_, ?_, ?_, hl, by simp [h.len]⟩
  · have := heap_setCell_same w' g 1 _ _ (.slice a' (k + 1) c') hx
    unfold Box; simpa using this
  · exact hn.but ((But.refl g w').setCell 1 (.slice a' (k + 1) c')) (by omega)
  · have s1 := win_setCell w' g 1 (.slice a' (k + 1) c')
    have hz := h.win.size
    have hb2 := hb.size
    refine ⟨s1.os.trans (hb.os.trans h.win.os), s1.tape.trans (hb.tape.trans h.win.tape), s1.output.trans (hb.output.trans h.win.output), Nat.le_trans hz (Nat.le_trans hb2 s1.size), fun o h1 h2 => ?_⟩
    exact (s1.block o (by omega) h2).trans ((hb.block o h1).trans (h.win.block o h1 h2))
/-- The array that was made: its shape lies elsewhere. -/
theorem OutB.arr {g cd k B E : Nat} {W0 wr : World} {a : Option Addr} {c : Nat} {ad : Option Addr} {m S : List Int} (h : OutB g W0 wr (.slice a S.length c) ad cd k m) (hS : Piece B E W0 (.slice a S.length c) S) (hE : E ≤ W0.heap.size) (hB : B ≤ W0.heap.size) (hg : E ≤ g ∨ g + 1 ≤ B) : Arr B wr.heap.size wr (.agg #[.slice a S.length c, .slice ad k cd]) S m := by
  have p1 : Piece B E wr (.slice a S.length c) S := hS.win h.win hg
  have p2 := h.row.piece
  have hz := h.win.size
  exact ⟨_, _, rfl, p1.mono (Nat.le_refl _) (by omega), p2.mono hB (Nat.le_refl _), p1.apart p2 (.inl hE)⟩
/-- Growing by a list: what else stands, and where the list lies then. -/
theorem growX {B : Nat} {w : World} {v : Value} {l m : List Int} {a : Option Addr} (h : NewInts B w v l) (hm : Ints w a m) (hB : B ≤ w.heap.size) (hl : l.length + m.length ≤ 2097152) (c : Nat) :
    ∃ a' c' w', (Builtin.append_ #[25, 25] 25 #[v, .slice a m.length c]).run Try.prog w = .ok (.slice a' (l ++ m).length c') w' ∧ NewInts B w' (.slice a' (l ++ m).length c') (l ++ m) ∧ Below B w w' ∧ (∀ o, o < w.heap.size → v.ownBlock ≠ some o → w'.heap[o]? = w.heap[o]?) ∧ ((Value.slice a' (l ++ m).length c').ownBlock = v.ownBlock ∨ (Value.slice a' (l ++ m).length c').ownBlock = some w.heap.size) := by
  obtain ⟨i, hq, z1, z2, z3⟩ : ∃ i, Try.prog.info? 3 = some i ∧ i.zero = some (.int .i64 0) ∧ i.size = 1 ∧ i.bytes = 8 := by
    have hi := info_int
    cases hq : Try.prog.info? 3 with
    | none => rw [hq] at hi; cases hi
    | some i => rw [hq] at hi; simp at hi; exact ⟨i, rfl, hi.1, hi.2.1, hi.2.2⟩
  cases a with
  | none =>
    obtain rfl : m = [] := by
      rcases hm with h | ⟨b, off, e, _⟩
      · exact h
      · cases e
    obtain ⟨base, cap, rfl, hle⟩ : ∃ base cap, v = .slice base l.length cap ∧ l.length ≤ cap := by
      rcases h.2 with ⟨e, h0⟩ | ⟨g, cap, cur, e, _, _, hle, _⟩
      · exact ⟨none, 0, by rw [e, h0], by omega⟩
      · exact ⟨_, cap, e, hle⟩
    refine ⟨base, cap, w, ?_, by simpa using h, Below.refl _ _, fun _ _ _ => rfl, .inl (by simp)⟩
    have := run_append_nothing (P := Try.prog) w 25 25 25 3 i Try.underlying25 hq base l.length cap hle (.slice none 0 c) (by rw [z2]; exact Src.ofNil w Try.underlying25 c)
    simpa using this
  | some ad =>
    have hn : ∀ (j : Nat) (u : Value), (m.map (Value.int .i64))[j]? = some u → w.cell? (ad.add j) = some u := by
      rcases hm with rfl | ⟨b, off, e, _, hc⟩
      · intro j u hu; simp at hu
      · cases e; exact ints_news hc
    obtain ⟨v', w', hr, h2, h3, _, h5⟩ := run_append_own_at (P := Try.prog) w B 25 25 3 i (.int .i64 0) 1 8 Try.underlying25 hq z1 z2 z3 rfl (by decide) v l.length (l.map (Value.int .i64)) h ad m.length c (m.map (Value.int .i64)) (by simp) hn (by intro u hu; obtain ⟨x, _, rfl⟩ := List.mem_map.1 hu; rfl) (by unfold maxLen; omega) (by omega) hB
    have h2' : NewInts B w' v' (l ++ m) := by
      show World.ownsRow _ _ _ _ _ _ _
      simpa using h2
    obtain ⟨a', c', rfl, _⟩ := h2'.ints
    exact ⟨a', c', w', hr, h2', grown_below h3 h.row hB, fun o ho hne => h3.block o ho (fun e => hne e.symm), h5⟩
/-- A list of numbers does not lie in a box of two lists. -/
theorem Piece.notBox {B C g : Nat} {w : World} {v : Value} {l : List Int} {a b : Option Addr} {n c n' c' : Nat} {T : TypeId} (h : Piece B C w v l) (hb : Box w g (.slice a n c) (.slice b n' c') T) : NotAt g v := by
  obtain ⟨a0, c0, rfl, hle, h⟩ := h
  intro off m cc e
  cases l with
  | nil => cases e; rfl
  | cons x l =>
    rcases h with h | ⟨o, of, cur, t, rfl, _, _, hg, hr⟩
    · cases h
    · exfalso
      cases e
      unfold Box at hb
      rw [hb] at hg
      cases hg
      have := hr 0 (by simp)
      rw [Nat.add_zero] at this
      match off, this with
      | 0, h => simp at h
      | 1, h => simp at h
      | k + 2, h => simp at h
theorem Piece.winB {B C g : Nat} {w w' : World} {v : Value} {l : List Int} (h : Piece B C w v l) (hw : Win g (g + 1) w w') (hn : NotAt g v) (hC : C ≤ w.heap.size) : Piece B C w' v l := by
  obtain ⟨a, c, rfl, hle, h⟩ := h
  refine ⟨a, c, rfl, hle, ?_⟩
  rcases h with rfl | ⟨o, off, cur, t, rfl, h1, h2, hg, r⟩
  · exact .inl rfl
  · by_cases e : o = g
    · subst e
      have := hn _ _ _ rfl
      exact .inl (List.eq_nil_of_length_eq_zero this)
    · exact .inr ⟨o, off, cur, t, rfl, h1, h2, by rw [hw.block o (by omega) (by omega)]; exact hg, r⟩
/-- The array that was made, its shape anywhere but in its own box. -/
theorem OutB.arrN {g cd k B E : Nat} {W0 wr : World} {a : Option Addr} {c : Nat} {ad : Option Addr} {m S : List Int} (h : OutB g W0 wr (.slice a S.length c) ad cd k m) (hS : Piece B E W0 (.slice a S.length c) S) (hE : E ≤ W0.heap.size) (hB : B ≤ W0.heap.size) (hn : NotAt g (.slice a S.length c)) : Arr B wr.heap.size wr (.agg #[.slice a S.length c, .slice ad k cd]) S m := by
  have p1 : Piece B E wr (.slice a S.length c) S := hS.winB h.win hn hE
  have p2 := h.row.piece
  have hz := h.win.size
  exact ⟨_, _, rfl, p1.mono (Nat.le_refl _) (by omega), p2.mono hB (Nat.le_refl _), p1.apart p2 (.inl hE)⟩
/-- A list of numbers of one's own does not lie in a box of an array. -/
theorem newInts_notBox {B g : Nat} {w : World} {v x y : Value} {l : List Int} (h : NewInts B w v l) (hb : Box w g x y 32) : v.ownBlock ≠ some g := by
  rcases h.2 with ⟨rfl, _⟩ | ⟨o, cap, cur, rfl, _, hg, _⟩
  · simp [Value.ownBlock]
  · intro e
    simp only [Value.ownBlock, Option.some.injEq] at e
    subst e
    unfold Box at hb
    rw [hb] at hg
    injection hg with hg
    injection hg with _ h2 _
    exact absurd h2 (by decide)
theorem notAt_own {g : Nat} {v : Value} (h : v.ownBlock ≠ some g) : NotAt g v := by
  intro off n c e
  subst e
  exact absurd rfl h
theorem newInts_setBox {B g i : Nat} {w : World} {v x y u : Value} {l : List Int} (h : NewInts B w v l) (hb : Box w g x y 32) : NewInts B (w.setCell ⟨g, i, none⟩ u) v l := by
  have hn := newInts_notBox h hb
  obtain ⟨h1, h2⟩ := h
  refine ⟨h1, ?_⟩
  rcases h2 with h2 | ⟨o, cap, cur, rfl, hB, hg, r⟩
  · exact .inl h2
  · refine .inr ⟨o, cap, cur, rfl, hB, ?_, r⟩
    rw [heap_setCell_other _ _ _ _ (by show o ≠ g; intro e; subst e; exact hn rfl)]
    exact hg
/-- Growing by a list: boxes of arrays stand. -/
theorem growK {B : Nat} {w : World} {v : Value} {l m : List Int} {a : Option Addr} (h : NewInts B w v l) (hm : Ints w a m) (hB : B ≤ w.heap.size) (hl : l.length + m.length ≤ 2097152) (c : Nat) :
    ∃ a' c' w', (Builtin.append_ #[25, 25] 25 #[v, .slice a m.length c]).run Try.prog w = .ok (.slice a' (l ++ m).length c') w' ∧ NewInts B w' (.slice a' (l ++ m).length c') (l ++ m) ∧ Below B w w' ∧ (∀ g x y, Box w g x y 32 → Box w' g x y 32) := by
  obtain ⟨a', c', w', r, n, b, k, _⟩ := growX h hm hB hl c
  refine ⟨a', c', w', r, n, b, fun g x y hb => ?_⟩
  unfold Box
  rw [k g hb.lt (newInts_notBox h hb)]
  exact hb
theorem shape_put {w V : World} {q : Nat} {v x0 y0 : Value} {l : List Int} (hb : Below w.heap.size w V) (hq : w.heap.size ≤ q) (bq : Box V q x0 y0 32) (n : NewInts w.heap.size V v l) :
    Box ((V.setCell ⟨q, 0, none⟩ v).setCell ⟨q, 1, none⟩ (.slice none 0 0)) q v (.slice none 0 0) 32 ∧ NewInts w.heap.size ((V.setCell ⟨q, 0, none⟩ v).setCell ⟨q, 1, none⟩ (.slice none 0 0)) v l ∧ Below w.heap.size w ((V.setCell ⟨q, 0, none⟩ v).setCell ⟨q, 1, none⟩ (.slice none 0 0)) := by
  have b1 : Box (V.setCell ⟨q, 0, none⟩ v) q v y0 32 := by
    have := heap_setCell_same V q 0 _ _ v bq
    unfold Box; simpa using this
  exact ⟨arr_stored bq, newInts_setBox (newInts_setBox n bq) b1, below_setCell (below_setCell hb hq _ _) hq _ _⟩
theorem shape_new {w V : World} {v : Value} {l : List Int} (hb : Below w.heap.size w V) (n : NewInts w.heap.size V v l) :
    Box (V.alloc (.cells #[v, .slice none 0 0] 32)) V.heap.size v (.slice none 0 0) 32 ∧ NewInts w.heap.size (V.alloc (.cells #[v, .slice none 0 0] 32)) v l ∧ Below w.heap.size w (V.alloc (.cells #[v, .slice none 0 0] 32)) :=
  ⟨box_new V _ _ _, n.keep (bAlloc (Below.refl _ _) _), bAlloc hb _⟩
/-- Two lists one behind the other, in whatever order the box of the answer is laid among the steps: the four ways. -/
theorem shape_ways {w : World} {a b : Option Addr} {l m : List Int} (ha : Ints w a l) (hb : Ints w b m) (hl : l.length + m.length ≤ 2097152) (c c' : Nat) (E N : Obj) (hE : E = .cells #[] 3) (hN : N = .cells #[.slice none 0 0, .slice none 0 0] 32) :
    ∃ aA cA wA aB cB wB aC cC wC aD cD wD aE cE wE aF cF wF aG cG wG,
      ((Builtin.append_ #[25, 25] 25 #[.slice (some ⟨w.heap.size, 0, none⟩) 0 0, .slice a l.length c]).run Try.prog (World.drew (w.alloc E)) = .ok (.slice aA l.length cA) wA ∧
       (Builtin.append_ #[25, 25] 25 #[.slice (some ⟨w.heap.size + 1, 0, none⟩) 0 0, .slice a l.length c]).run Try.prog (World.drew ((w.alloc N).alloc E)) = .ok (.slice aB l.length cB) wB ∧
       (Builtin.append_ #[25, 25] 25 #[.slice (some ⟨w.heap.size, 0, none⟩) 0 0, .slice a l.length c]).run Try.prog (World.drew ((w.alloc E).alloc N)) = .ok (.slice aC l.length cC) wC ∧
       (Builtin.append_ #[25, 25] 25 #[.slice aA l.length cA, .slice b m.length c']).run Try.prog wA = .ok (.slice aD (l.length + m.length) cD) wD ∧
       (Builtin.append_ #[25, 25] 25 #[.slice aA l.length cA, .slice b m.length c']).run Try.prog (wA.alloc N) = .ok (.slice aE (l.length + m.length) cE) wE ∧
       (Builtin.append_ #[25, 25] 25 #[.slice aB l.length cB, .slice b m.length c']).run Try.prog wB = .ok (.slice aF (l.length + m.length) cF) wF ∧
       (Builtin.append_ #[25, 25] 25 #[.slice aC l.length cC, .slice b m.length c']).run Try.prog wC = .ok (.slice aG (l.length + m.length) cG) wG) ∧
      (Below w.heap.size w wA ∧ Below w.heap.size w wB ∧ Below w.heap.size w wC ∧ Below w.heap.size w wD ∧ Below w.heap.size w wE ∧ Below w.heap.size w wF ∧ Below w.heap.size w wG) ∧
      (NewInts w.heap.size wD (.slice aD (l ++ m).length cD) (l ++ m) ∧ NewInts w.heap.size wE (.slice aE (l ++ m).length cE) (l ++ m) ∧ NewInts w.heap.size wF (.slice aF (l ++ m).length cF) (l ++ m) ∧ NewInts w.heap.size wG (.slice aG (l ++ m).length cG) (l ++ m)) ∧
      (Box wE wA.heap.size (.slice none 0 0) (.slice none 0 0) 32 ∧ Box wB w.heap.size (.slice none 0 0) (.slice none 0 0) 32 ∧ Box wF w.heap.size (.slice none 0 0) (.slice none 0 0) 32 ∧ Box wC (w.heap.size + 1) (.slice none 0 0) (.slice none 0 0) 32 ∧ Box wG (w.heap.size + 1) (.slice none 0 0) (.slice none 0 0) 32) := by
  have s1 : (w.alloc N).heap.size = w.heap.size + 1 := by simp
  have BA : Below w.heap.size w (World.drew (w.alloc E)) := (bAlloc (Below.refl _ _) _).drew
  have BB : Below w.heap.size w (World.drew ((w.alloc N).alloc E)) := (bAlloc (bAlloc (Below.refl _ _) _) _).drew
  have BC : Below w.heap.size w (World.drew ((w.alloc E).alloc N)) := (bAlloc (bAlloc (Below.refl _ _) _) _).drew
  have NA0 : NewInts w.heap.size (w.alloc E) (.slice (some ⟨w.heap.size, 0, none⟩) 0 0) [] := by rw [hE]; exact newInts_alloc w [] (Nat.le_refl _) (by simp)
  have NA : NewInts w.heap.size (World.drew (w.alloc E)) (.slice (some ⟨w.heap.size, 0, none⟩) 0 0) [] := NA0.keep ((Below.refl _ _).drew)
  have NB : NewInts w.heap.size (World.drew ((w.alloc N).alloc E)) (.slice (some ⟨w.heap.size + 1, 0, none⟩) 0 0) [] := by
    have q : NewInts w.heap.size ((w.alloc N).alloc E) (.slice (some ⟨(w.alloc N).heap.size, 0, none⟩) 0 0) [] := by rw [hE]; exact newInts_alloc (w.alloc N) [] (by omega) (by simp)
    rw [s1] at q
    exact q.keep ((Below.refl _ _).drew)
  have NC : NewInts w.heap.size (World.drew ((w.alloc E).alloc N)) (.slice (some ⟨w.heap.size, 0, none⟩) 0 0) [] := NA0.keep ((bAlloc (Below.refl _ _) N).drew)
  obtain ⟨aA, cA, wA, rA, nA, bA, kA⟩ := growK NA (ha.keep BA) BA.size (by simp; omega) c
  obtain ⟨aB, cB, wB, rB, nB, bB, kB⟩ := growK NB (ha.keep BB) BB.size (by simp; omega) c
  obtain ⟨aC, cC, wC, rC, nC, bC, kC⟩ := growK NC (ha.keep BC) BC.size (by simp; omega) c
  rw [List.nil_append] at rA rB rC nA nB nC
  have bA := BA.trans bA
  have bB := BB.trans bB
  have bC := BC.trans bC
  have bAN : Below w.heap.size w (wA.alloc N) := bAlloc bA _
  obtain ⟨aD, cD, wD, rD, nD, bD, kD⟩ := growK nA (hb.keep bA) bA.size hl c'
  obtain ⟨aE, cE, wE, rE, nE, bE, kE⟩ := growK (nA.keep (bAlloc (Below.refl _ _) N)) (hb.keep bAN) bAN.size hl c'
  obtain ⟨aF, cF, wF, rF, nF, bF, kF⟩ := growK nB (hb.keep bB) bB.size hl c'
  obtain ⟨aG, cG, wG, rG, nG, bG, kG⟩ := growK nC (hb.keep bC) bC.size hl c'
  have xB : Box (World.drew ((w.alloc N).alloc E)) w.heap.size (.slice none 0 0) (.slice none 0 0) 32 := by rw [hN]; exact heap_alloc2_old w _ _
  have xC : Box (World.drew ((w.alloc E).alloc N)) (w.heap.size + 1) (.slice none 0 0) (.slice none 0 0) 32 := by rw [hN]; exact heap_alloc2_new w _ _
  have xE : Box (wA.alloc N) wA.heap.size (.slice none 0 0) (.slice none 0 0) 32 := by rw [hN]; exact box_new wA _ _ _
  have eL : (l ++ m).length = l.length + m.length := List.length_append
  refine ⟨aA, cA, wA, aB, cB, wB, aC, cC, wC, aD, cD, wD, aE, cE, wE, aF, cF, wF, aG, cG, wG, ⟨rA, rB, rC, ?_, ?_, ?_, ?_⟩, ⟨bA, bB, bC, bA.trans bD, bAN.trans bE, bB.trans bF, bC.trans bG⟩, ⟨nD, nE, nF, nG⟩, ⟨kE _ _ _ xE, kB _ _ _ xB, kF _ _ _ (kB _ _ _ xB), kC _ _ _ xC, kG _ _ _ (kC _ _ _ xC)⟩⟩
  · rw [← eL]; exact rD
  · rw [← eL]; exact rE
  · rw [← eL]; exact rF
  · rw [← eL]; exact rG
end Go.Proofs.Ytmmjidhpmbcoiaa
namespace Go.Proofs.Ytmmjidhpmbcoiaa
open Go.RowKit
set_option linter.unusedVariables false
set_option linter.unusedSimpArgs false
theorem run_zeros (w : World) (ty : TypeId) {n : Nat} (h0 : 0 < n) (hn : n ≤ 1048576) :
    ∃ cap w', (Builtin.append_ #[25, 3] ty #[.slice none 0 0, .int .i64 (n : Int)]).run Try.prog w = .ok (.slice (some ⟨w.heap.size, 0, none⟩) n cap) w' ∧ NewInts w.heap.size w' (.slice (some ⟨w.heap.size, 0, none⟩) 0 cap) [] ∧ Below w.heap.size w w' := by
  obtain ⟨i, hq, z1, z2, z3⟩ : ∃ i, Try.prog.info? 3 = some i ∧ i.zero = some (.int .i64 0) ∧ i.size = 1 ∧ i.bytes = 8 := by
    have hi := info_int
    cases hq : Try.prog.info? 3 with
    | none => rw [hq] at hi; cases hi
    | some i => rw [hq] at hi; simp at hi; exact ⟨i, rfl, hi.1, hi.2.1, hi.2.2⟩
  refine ⟨_, _, Lib.run_append_nil_zeros w 25 3 ty 3 i (.int .i64 0) .i64 .i64 Try.underlying25 Try.underlying3 hq z1 n h0 (by omega) (by omega) (by rw [z3]; omega), ?_, bAlloc ((Below.refl w.heap.size w).drew) _⟩
  have hge := grownCap_ge w n 0 3
  have hcm := grownCap_le_maxLen w n 0 3 (by unfold maxLen; omega)
  refine ⟨rfl, .inr ⟨w.heap.size, _, _, rfl, Nat.le_refl _, heap_alloc_new w.drew _, Nat.zero_le _, hcm, ?_, by simp⟩⟩
  simp only [Array.size_append, size_zeroCells]
  rw [show (Value.int .i64 0).cells.size = 1 from rfl]
  omega
set_option maxRecDepth 20000 in
set_option maxHeartbeats 2000000 in
/-- slices.Grow of no list. -/
theorem grow0_impl {n : Nat} (w : World) (hn : n ≤ 1048576) :
    Calls Try.prog 115 #[.slice none 0 0, .int .i64 (n : Int)] w fun r w' => ∃ v, r = .returned v ∧ NewInts w.heap.size w' v [] ∧ Below w.heap.size w w' := by
  by_cases h0 : n = 0
  · subst h0
    go_enter Try.func115, Try.ntmps115
    go_wp2
    go_ret
    exact ⟨_, rfl, NewInts.nil _ _, Below.refl _ _⟩
  · obtain ⟨cap, w2, r2, n2, b2⟩ := run_zeros w 25 (n := n) (by omega) hn
    have R2 : Hid (_ = _) := r2
    have N2 : Hid (NewInts w.heap.size w2 (.slice (some ⟨w.heap.size, 0, none⟩) 0 cap) []) := n2
    have B2 : Hid (Below w.heap.size w w2) := b2
    have hp : (0 : Int) < (n : Int) := by omega
    clear r2 n2 b2 h0
    go_enter Try.func115, Try.ntmps115
    go_wp2_with (at_builtin; refine wpList_append_ty rfl _ _ 25 3 rfl _ _ _ rfl rfl R2.out ?_)
    go_ret
    exact ⟨_, rfl, N2.out, B2.out⟩
set_option maxRecDepth 20000 in
set_option maxHeartbeats 4000000 in
/-- slices.Concat of two lists: a list of one's own. -/
theorem concat_impl {l m : List Int} {a b : Option Addr} {c c' o : Nat} {w : World} {T : TypeId} (ha : Ints w a l) (hb : Ints w b m) (hl : l.length + m.length ≤ 1048576) (ho : w.heap[o]? = some (.cells #[.slice a l.length c, .slice b m.length c'] T (0, 0))) :
    Calls Try.prog 103 #[.slice (some ⟨o, 0, none⟩) 2 2] w fun r w' => ∃ a' k', r = .returned (.slice a' (l ++ m).length k') ∧ NewInts w.heap.size w' (.slice a' (l ++ m).length k') (l ++ m) ∧ Below w.heap.size w w' := by
  have c0 : w.cell? ⟨o, 0, none⟩ = some (.slice a l.length c) := cell_at ho rfl
  have c1 : w.cell? ⟨o, 1, none⟩ = some (.slice b m.length c') := cell_at ho rfl
  have hlt : o < w.heap.size := lt_of_heapA ho
  have CK : Hid (∀ W, Below w.heap.size w W → W.cell? ⟨o, 0, none⟩ = some (.slice a l.length c) ∧ W.cell? ⟨o, 1, none⟩ = some (.slice b m.length c')) := fun W h => ⟨(h.cell (p := ⟨o, 0, none⟩) hlt).trans c0, (h.cell (p := ⟨o, 1, none⟩) hlt).trans c1⟩
  have HA : Hid (∀ W, Below w.heap.size w W → Ints W a l) := fun W h => ha.keep h
  have HB : Hid (∀ W, Below w.heap.size w W → Ints W b m) := fun W h => hb.keep h
  have hG : Hid (∀ W, Calls Try.prog 115 #[.slice none 0 0, .int .i64 ((l.length : Int) + (m.length : Int))] W fun r w' => ∃ v, r = .returned v ∧ NewInts W.heap.size w' v [] ∧ Below W.heap.size W w') := fun W => by
    have := grow0_impl (n := l.length + m.length) W hl
    rw [Int.natCast_add] at this
    exact this
  have hw1 : IntKind.i64.wrap ((l.length : Int) + (m.length : Int)) = (l.length : Int) + (m.length : Int) := by rw [IntKind.wrap_i64]; omega
  clear ha hb ho
  go_enter Try.func103, Try.ntmps103
  go_wp2
  go_loopw [3, 11] (fun z i w' => w' = w ∧ ((i = .int .i64 0 ∧ z = .int .i64 0) ∨ (i = .int .i64 1 ∧ z = .int .i64 (l.length : Int)) ∨ (i = .int .i64 2 ∧ z = .int .i64 ((l.length : Int) + (m.length : Int))))) (fun _ i _ => 2 - (intOf i).toNat)
  case atStart => exact ⟨rfl, .inl ⟨rfl, rfl⟩⟩
  case round =>
    obtain ⟨hw, h⟩ := hrel
    have hw2 := hw.symm
    clear hw
    subst hw2
    rcases h with ⟨rfl, rfl⟩ | ⟨rfl, rfl⟩ | ⟨rfl, rfl⟩
    · go_wp2
      go_roundw
      case rel => exact ⟨by first | rfl | trivial, .inr (.inl ⟨rfl, by simp⟩)⟩
      case measure => simp [intOf]
    · go_wp2
      go_roundw
      case rel => exact ⟨by first | rfl | trivial, .inr (.inr ⟨rfl, by simp⟩)⟩
      case measure => simp [intOf]
    · go_wp2_with fail
      refine (hG.out _).mono ?_
      rintro r w2 ⟨v2, rfl, hn, hb⟩
      have N2 : Hid (NewInts w.heap.size w2 v2 []) := hn
      have B2 : Hid (Below w.heap.size w w2) := hb
      clear hn hb c0 c1
      go_wp2
      go_loopw [6, 27] (fun v i w' => Below w.heap.size w w' ∧ ((i = .int .i64 0 ∧ NewInts w.heap.size w' v []) ∨ (i = .int .i64 1 ∧ NewInts w.heap.size w' v l) ∨ (i = .int .i64 2 ∧ NewInts w.heap.size w' v (l ++ m)))) (fun _ i _ => 2 - (intOf i).toNat)
      case atStart => exact ⟨B2.out, .inl ⟨rfl, N2.out⟩⟩
      case round =>
        obtain ⟨hw, h⟩ := hrel
        have BR : Hid (Below w.heap.size w wr) := hw
        clear hw N2 B2
        obtain ⟨d0, d1⟩ := CK.out _ BR.out
        rcases h with ⟨rfl, hn⟩ | ⟨rfl, hn⟩ | ⟨rfl, hn⟩
        · obtain ⟨a3, k3, w3, r3, n3, b3⟩ := growL hn (HA.out _ BR.out) BR.out.size (by simp; omega) c
          rw [List.nil_append] at r3 n3
          have R3 : Hid (_ = _) := r3
          have N3 : Hid (NewInts w.heap.size w3 (.slice a3 l.length k3) l) := n3
          have B3 : Hid (Below w.heap.size w w3) := BR.out.trans b3
          clear hn r3 n3 b3
          go_wp2_with (at_builtin; refine wpList_append_ty rfl _ _ 25 25 rfl _ _ _ rfl rfl R3.out ?_)
          go_roundw
          case rel => exact ⟨B3.out, .inr (.inl ⟨rfl, N3.out⟩)⟩
          case measure => simp [intOf]
        · obtain ⟨a3, k3, w3, r3, n3, b3⟩ := growL hn (HB.out _ BR.out) BR.out.size hl c'
          have R3 : Hid (_ = _) := r3
          have N3 : Hid (NewInts w.heap.size w3 (.slice a3 (l ++ m).length k3) (l ++ m)) := n3
          have B3 : Hid (Below w.heap.size w w3) := BR.out.trans b3
          clear hn r3 n3 b3
          go_wp2_with (at_builtin; refine wpList_append_ty rfl _ _ 25 25 rfl _ _ _ rfl rfl R3.out ?_)
          go_roundw
          case rel => exact ⟨B3.out, .inr (.inr ⟨rfl, by have q := N3.out; rw [List.length_append] at q; exact q⟩)⟩
          case measure => simp [intOf]
        · have NN : Hid (NewInts w.heap.size wr _ (l ++ m)) := hn
          obtain ⟨a4, k4, rfl, _⟩ := hn.ints
          clear hn
          go_wp2
          go_ret
          exact ⟨_, _, rfl, NN.out, BR.out⟩
end Go.Proofs.Ytmmjidhpmbcoiaa
namespace Go.Proofs.Ytmmjidhpmbcoiaa
open Go.RowKit
set_option linter.unusedVariables false
theorem two_appends {V : World} {a b : Option Addr} {l m : List Int} (ha : Ints V a l) (hb : Ints V b m) (hl : l.length + m.length ≤ 1048576) (c c' : Nat) :
    ∃ a1 c1 w1 a2 c2 w2, (Builtin.append_ #[25, 25] 25 #[.slice (some ⟨V.heap.size, 0, none⟩) 0 0, .slice a l.length c]).run Try.prog (V.alloc (.cells #[] 3)) = .ok (.slice a1 l.length c1) w1 ∧
      (Builtin.append_ #[25, 25] 25 #[.slice a1 l.length c1, .slice b m.length c']).run Try.prog w1 = .ok (.slice a2 (l ++ m).length c2) w2 ∧ Below V.heap.size V w1 ∧ Below V.heap.size V w2 ∧ Ints w2 a2 (l ++ m) ∧ NewInts V.heap.size w2 (.slice a2 (l ++ m).length c2) (l ++ m) := by
  have B0 : Below V.heap.size V (V.alloc (.cells #[] 3)) := bAlloc (Below.refl _ _) _
  have N0 : NewInts V.heap.size (V.alloc (.cells #[] 3)) (.slice (some ⟨V.heap.size, 0, none⟩) 0 0) [] := newInts_alloc V [] (Nat.le_refl _) (by simp)
  obtain ⟨a1, c1, w1, r1, n1, b1⟩ := growL N0 (ha.keep B0) (by simp) (by simp; omega) c
  have B1 : Below V.heap.size V w1 := B0.trans b1
  obtain ⟨a2, c2, w2, r2, n2, b2⟩ := growL n1 (hb.keep B1) (B1.size) (by simpa using hl) c'
  have e : ([] : List Int) ++ l = l := rfl
  rw [e] at r1 r2 n2
  obtain ⟨p, q, h, hi⟩ := n2.ints
  cases h
  exact ⟨a1, c1, w1, a2, c2, w2, r1, r2, B1, B1.trans b2, hi, n2⟩
end Go.Proofs.Ytmmjidhpmbcoiaa
namespace Go.Proofs.Ytmmjidhpmbcoiaa
open Go.RowKit
set_option linter.unusedVariables false
set_option linter.unusedSimpArgs false
/-- The words of an array. -/
def wsA (s d : List Int) : List Int := [(s.length : Int)] ++ s ++ d
theorem wsA_len (s d : List Int) : (wsA s d).length = 1 + s.length + d.length := by simp [wsA]; omega
set_option maxRecDepth 20000 in
set_option maxHeartbeats 4000000 in
theorem words_spec {w : World} {v : Value} {s d : List Int} (h : ArrI w v s d) (hl : s.length + d.length ≤ 1000000) :
    Calls Try.prog 94 #[v] w fun e w' => ∃ a c, e = .returned (.slice a (wsA s d).length c) ∧ Piece w.heap.size w'.heap.size w' (.slice a (wsA s d).length c) (wsA s d) ∧ Below w.heap.size w w' := by
  obtain ⟨sa, sc, da, dc, rfl, h1, h2, g1, g2⟩ := h
  have BV : Below w.heap.size w (w.alloc (.cells #[.slice sa s.length sc, .slice da d.length dc] 32)) := bAlloc (Below.refl _ _) _
  have BX : Box (w.alloc (.cells #[.slice sa s.length sc, .slice da d.length dc] 32)) w.heap.size (.slice sa s.length sc) (.slice da d.length dc) 32 := heap_alloc_new _ _
  obtain ⟨V, hV⟩ : ∃ V, w.alloc (.cells #[.slice sa s.length sc, .slice da d.length dc] 32) = V := ⟨_, rfl⟩
  rw [hV] at BV BX
  have N0 : NewInts V.heap.size (V.alloc (.cells #[.int .i64 (s.length : Int)] 3)) (.slice (some ⟨V.heap.size, 0, none⟩) 1 1) [(s.length : Int)] := newInts_alloc V [(s.length : Int)] (Nat.le_refl _) (by simp)
  have B0 : Below V.heap.size V (V.alloc (.cells #[.int .i64 (s.length : Int)] 3)) := bAlloc (Below.refl _ _) _
  obtain ⟨a1, c1, w1, r1, n1, b1⟩ := growL N0 ((h1.keep BV).keep B0) B0.size (by simp; omega) sc
  have B1 : Below V.heap.size V w1 := B0.trans b1
  obtain ⟨a2, c2, w2, r2, n2, b2⟩ := growL n1 ((h2.keep BV).keep B1) B1.size (by simp; omega) dc
  have B2 : Hid (Below w.heap.size w w2) := bTrans BV (B1.trans b2)
  have P2 : Hid (Piece w.heap.size w2.heap.size w2 (.slice a2 (wsA s d).length c2) (wsA s d)) := (n2.piece).mono BV.size (Nat.le_refl _)
  have e2 : ([(s.length : Int)] ++ s ++ d).length = (wsA s d).length := rfl
  rw [e2] at r2
  generalize hL1 : ([(s.length : Int)] ++ s).length = L1 at r1 r2
  generalize (wsA s d).length = L2 at *
  have R1 : Hid (_ = _) := r1
  have R2 : Hid (_ = _) := r2
  have x0 := BX.c0
  have x1 := (BX.keep B1).c1
  have x2 : ∀ O, (V.alloc O).cell? ⟨w.heap.size, 0, none⟩ = some (.slice sa s.length sc) := fun O => (BX.keep (bAlloc (Below.refl _ _) O)).c0
  have XB : Hid (Box V w.heap.size (.slice sa s.length sc) (.slice da d.length dc) 32) := BX
  clear BX BV N0 B0 n1 b1 n2 b2 r1 r2 hL1 h1 h2 e2 B1
  go_enter Try.func94, Try.ntmps94
  go_wp2_with (at_builtin; first | refine wpList_append_ty rfl _ _ 25 25 rfl _ _ _ rfl rfl R1.out ?_ | refine wpList_append_ty rfl _ _ 25 25 rfl _ _ _ rfl rfl R2.out ?_)
  go_ret
  exact ⟨_, _, rfl, P2.out, B2.out⟩
set_option maxRecDepth 20000 in
set_option maxHeartbeats 4000000 in
/-- slices.Concat of three lists: a list of one's own. -/
theorem concat3_impl {l m q : List Int} {a b f : Option Addr} {c c' c'' o : Nat} {w : World} {T : TypeId} (ha : Ints w a l) (hb : Ints w b m) (hq : Ints w f q) (hl : l.length + m.length + q.length ≤ 1048576) (ho : w.heap[o]? = some (.cells #[.slice a l.length c, .slice b m.length c', .slice f q.length c''] T (0, 0))) :
    Calls Try.prog 103 #[.slice (some ⟨o, 0, none⟩) 3 3] w fun r w' => ∃ a' k', r = .returned (.slice a' (l ++ m ++ q).length k') ∧ NewInts w.heap.size w' (.slice a' (l ++ m ++ q).length k') (l ++ m ++ q) ∧ Below w.heap.size w w' := by
  have c0 : w.cell? ⟨o, 0, none⟩ = some (.slice a l.length c) := cell_at ho rfl
  have c1 : w.cell? ⟨o, 1, none⟩ = some (.slice b m.length c') := cell_at ho rfl
  have c2 : w.cell? ⟨o, 2, none⟩ = some (.slice f q.length c'') := cell_at ho rfl
  have hlt : o < w.heap.size := lt_of_heapA ho
  have CK : Hid (∀ W, Below w.heap.size w W → W.cell? ⟨o, 0, none⟩ = some (.slice a l.length c) ∧ W.cell? ⟨o, 1, none⟩ = some (.slice b m.length c') ∧ W.cell? ⟨o, 2, none⟩ = some (.slice f q.length c'')) := fun W h => ⟨(h.cell (p := ⟨o, 0, none⟩) hlt).trans c0, (h.cell (p := ⟨o, 1, none⟩) hlt).trans c1, (h.cell (p := ⟨o, 2, none⟩) hlt).trans c2⟩
  have HA : Hid (∀ W, Below w.heap.size w W → Ints W a l) := fun W h => ha.keep h
  have HB : Hid (∀ W, Below w.heap.size w W → Ints W b m) := fun W h => hb.keep h
  have HQ : Hid (∀ W, Below w.heap.size w W → Ints W f q) := fun W h => hq.keep h
  have hG : Hid (∀ W, Calls Try.prog 115 #[.slice none 0 0, .int .i64 ((l.length : Int) + (m.length : Int) + (q.length : Int))] W fun r w' => ∃ v, r = .returned v ∧ NewInts W.heap.size w' v [] ∧ Below W.heap.size W w') := fun W => by
    have := grow0_impl (n := l.length + m.length + q.length) W hl
    rw [Int.natCast_add, Int.natCast_add] at this
    exact this
  have hw1 : IntKind.i64.wrap ((l.length : Int) + (m.length : Int)) = (l.length : Int) + (m.length : Int) := by rw [IntKind.wrap_i64]; omega
  have hw2 : IntKind.i64.wrap ((l.length : Int) + (m.length : Int) + (q.length : Int)) = (l.length : Int) + (m.length : Int) + (q.length : Int) := by rw [IntKind.wrap_i64]; omega
  clear ha hb hq ho
  go_enter Try.func103, Try.ntmps103
  go_wp2
  go_loopw [3, 11] (fun z i w' => w' = w ∧ ((i = .int .i64 0 ∧ z = .int .i64 0) ∨ (i = .int .i64 1 ∧ z = .int .i64 (l.length : Int)) ∨ (i = .int .i64 2 ∧ z = .int .i64 ((l.length : Int) + (m.length : Int))) ∨ (i = .int .i64 3 ∧ z = .int .i64 ((l.length : Int) + (m.length : Int) + (q.length : Int))))) (fun _ i _ => 3 - (intOf i).toNat)
  case atStart => exact ⟨rfl, .inl ⟨rfl, rfl⟩⟩
  case round =>
    obtain ⟨hw, h⟩ := hrel
    have hw2' := hw.symm
    clear hw
    subst hw2'
    rcases h with ⟨rfl, rfl⟩ | ⟨rfl, rfl⟩ | ⟨rfl, rfl⟩ | ⟨rfl, rfl⟩
    · go_wp2
      go_roundw
      case rel => exact ⟨by first | rfl | trivial, .inr (.inl ⟨rfl, by simp⟩)⟩
      case measure => simp [intOf]
    · go_wp2
      go_roundw
      case rel => exact ⟨by first | rfl | trivial, .inr (.inr (.inl ⟨rfl, by simp⟩))⟩
      case measure => simp [intOf]
    · go_wp2
      go_roundw
      case rel => exact ⟨by first | rfl | trivial, .inr (.inr (.inr ⟨rfl, by simp⟩))⟩
      case measure => simp [intOf]
    · go_wp2_with fail
      refine (hG.out _).mono ?_
      rintro r w2 ⟨v2, rfl, hn, hb⟩
      have N2 : Hid (NewInts w.heap.size w2 v2 []) := hn
      have B2 : Hid (Below w.heap.size w w2) := hb
      clear hn hb c0 c1 c2
      go_wp2
      go_loopw [6, 27] (fun v i w' => Below w.heap.size w w' ∧ ((i = .int .i64 0 ∧ NewInts w.heap.size w' v []) ∨ (i = .int .i64 1 ∧ NewInts w.heap.size w' v l) ∨ (i = .int .i64 2 ∧ NewInts w.heap.size w' v (l ++ m)) ∨ (i = .int .i64 3 ∧ NewInts w.heap.size w' v (l ++ m ++ q)))) (fun _ i _ => 3 - (intOf i).toNat)
      case atStart => exact ⟨B2.out, .inl ⟨rfl, N2.out⟩⟩
      case round =>
        obtain ⟨hw, h⟩ := hrel
        have BR : Hid (Below w.heap.size w wr) := hw
        clear hw N2 B2
        obtain ⟨d0, d1, d2⟩ := CK.out _ BR.out
        rcases h with ⟨rfl, hn⟩ | ⟨rfl, hn⟩ | ⟨rfl, hn⟩ | ⟨rfl, hn⟩
        · obtain ⟨a3, k3, w3, r3, n3, b3⟩ := growL hn (HA.out _ BR.out) BR.out.size (by simp; omega) c
          rw [List.nil_append] at r3 n3
          have N3 : Hid (NewInts w.heap.size w3 (.slice a3 l.length k3) l) := n3
          have R3 : Hid (_ = _) := r3
          have B3 : Hid (Below w.heap.size w w3) := BR.out.trans b3
          clear hn r3 n3 b3
          go_wp2_with (at_builtin; refine wpList_append_ty rfl _ _ 25 25 rfl _ _ _ rfl rfl R3.out ?_)
          go_roundw
          case rel => exact ⟨B3.out, .inr (.inl ⟨rfl, N3.out⟩)⟩
          case measure => simp [intOf]
        · obtain ⟨a3, k3, w3, r3, n3, b3⟩ := growL hn (HB.out _ BR.out) BR.out.size (by omega) c'
          generalize hLL : (l ++ m).length = LL at r3
          have N3 : Hid (NewInts w.heap.size w3 (.slice a3 LL k3) (l ++ m)) := by rw [← hLL]; exact n3
          have R3 : Hid (_ = _) := r3
          have B3 : Hid (Below w.heap.size w w3) := BR.out.trans b3
          clear hn r3 n3 b3 hLL
          go_wp2_with (at_builtin; refine wpList_append_ty rfl _ _ 25 25 rfl _ _ _ rfl rfl R3.out ?_)
          go_roundw
          case rel => exact ⟨B3.out, .inr (.inr (.inl ⟨rfl, N3.out⟩))⟩
          case measure => simp [intOf]
        · obtain ⟨a3, k3, w3, r3, n3, b3⟩ := growL hn (HQ.out _ BR.out) BR.out.size (by simp; omega) c''
          generalize hLL : (l ++ m ++ q).length = LL at r3
          have N3 : Hid (NewInts w.heap.size w3 (.slice a3 LL k3) (l ++ m ++ q)) := by rw [← hLL]; exact n3
          have R3 : Hid (_ = _) := r3
          have B3 : Hid (Below w.heap.size w w3) := BR.out.trans b3
          clear hn r3 n3 b3 hLL
          go_wp2_with (at_builtin; refine wpList_append_ty rfl _ _ 25 25 rfl _ _ _ rfl rfl R3.out ?_)
          go_roundw
          case rel => exact ⟨B3.out, .inr (.inr (.inr ⟨rfl, N3.out⟩))⟩
          case measure => simp [intOf]
        · have NN : Hid (NewInts w.heap.size wr _ (l ++ m ++ q)) := hn
          obtain ⟨a4, k4, rfl, _⟩ := hn.ints
          clear hn
          go_wp2
          go_ret
          exact ⟨_, _, rfl, NN.out, BR.out⟩
set_option maxRecDepth 20000 in
set_option maxHeartbeats 4000000 in
theorem words_impl {w : World} {v : Value} {s d : List Int} (h : ArrI w v s d) (hl : s.length + d.length ≤ 1000000) :
    Calls Try.prog 80 #[v] w fun e w' => ∃ a c, e = .returned (.slice a (wsA s d).length c) ∧ Piece w.heap.size w'.heap.size w' (.slice a (wsA s d).length c) (wsA s d) ∧ Below w.heap.size w w' := by
  obtain ⟨sa, sc, da, dc, rfl, h1, h2, g1, g2⟩ := h
  have H1 : Hid (Ints w sa s) := h1
  have H2 : Hid (Ints w da d) := h2
  have HL : Hid (s.length + d.length ≤ 1000000) := hl
  clear h1 h2 hl
  go_enter Try.func80, Try.ntmps80
  go_wp2_with fail
  generalize hV : w.alloc (.cells #[.slice sa s.length sc, .slice da d.length dc] 32) = V
  have BV : Hid (Below w.heap.size w V) := by rw [← hV]; exact bAlloc (Below.refl _ _) _
  have I0 : Hid (Ints (V.alloc (.cells #[.int .i64 (s.length : Int)] 3)) (some ⟨V.heap.size, 0, none⟩) [(s.length : Int)]) := ints_new V [(s.length : Int)] 3
  have B0 : Hid (Below V.heap.size V (V.alloc (.cells #[.int .i64 (s.length : Int)] 3))) := bAlloc (Below.refl _ _) _
  generalize hU : V.alloc (.cells #[.int .i64 (s.length : Int)] 3) = U at *
  have SU : U.heap.size = V.heap.size + 1 := by rw [← hU]; simp
  have SV : V.heap.size = w.heap.size + 1 := by rw [← hV]; simp
  have BU : Hid (Below w.heap.size w U) := bTrans BV.out B0.out
  have HC : Hid ((U.alloc (.cells #[.slice (some ⟨w.heap.size + 1, 0, none⟩) 1 1, .slice sa s.length sc, .slice da d.length dc] 25)).heap[w.heap.size + 1 + 1]? = some (.cells #[.slice (some ⟨w.heap.size + 1, 0, none⟩) 1 1, .slice sa s.length sc, .slice da d.length dc] 25 (0, 0))) := by
    have := heap_alloc_new U (.cells #[.slice (some ⟨w.heap.size + 1, 0, none⟩) 1 1, .slice sa s.length sc, .slice da d.length dc] 25)
    rw [SU, SV] at this
    exact this
  have BA : Hid (Below U.heap.size U (U.alloc (.cells #[.slice (some ⟨w.heap.size + 1, 0, none⟩) 1 1, .slice sa s.length sc, .slice da d.length dc] 25))) := bAlloc (Below.refl _ _) _
  rw [SV] at I0
  refine (concat3_impl (I0.out.keep BA.out) (H1.out.keep (bTrans BU.out BA.out)) (H2.out.keep (bTrans BU.out BA.out)) (by have := HL.out; simp; omega) HC.out).mono ?_
  rintro r w3 ⟨a3, k3, rfl, hn, hb⟩
  have P3 : Hid (Piece w.heap.size w3.heap.size w3 (.slice a3 (wsA s d).length k3) (wsA s d)) := (hn.piece).mono (bTrans BU.out BA.out).size (Nat.le_refl _)
  have B3 : Hid (Below w.heap.size w w3) := bTrans (bTrans BU.out BA.out) hb
  have e9 : ([(s.length : Int)] ++ s ++ d).length = (wsA s d).length := rfl
  rw [e9]
  clear hn hb
  go_wp2
  go_ret
  exact ⟨_, _, rfl, P3.out, B3.out⟩
end Go.Proofs.Ytmmjidhpmbcoiaa
namespace Go.Proofs.Ytmmjidhpmbcoiaa
/-- How many of the first b there are until one is false. -/
def lead (p : Nat → Bool) : Nat → Nat
  | 0 => 0
  | b + 1 => if lead p b = b ∧ p b = true then b + 1 else lead p b
theorem lead_le (p : Nat → Bool) : ∀ b, lead p b ≤ b
  | 0 => Nat.le_refl _
  | b + 1 => by have := lead_le p b; simp only [lead]; split <;> omega
theorem lead_eq {p : Nat → Bool} : ∀ {b m : Nat}, m ≤ b → (∀ j, j < m → p j = true) → (m = b ∨ p m = false) → lead p b = m
  | 0, m, h, _, _ => by simp [lead]; omega
  | b + 1, m, h, h1, h2 => by
    simp only [lead]
    by_cases e : m = b + 1
    · subst e
      rw [if_pos ⟨lead_eq (Nat.le_refl b) (fun j hj => h1 j (by omega)) (.inl rfl), h1 b (by omega)⟩]
    · have h2' : p m = false := h2.resolve_left e
      have hl := lead_eq (p := p) (b := b) (m := m) (by omega) h1 (.inr h2')
      rw [if_neg, hl]
      rintro ⟨h3, h4⟩
      rw [hl] at h3
      subst h3
      rw [h2'] at h4
      cases h4
end Go.Proofs.Ytmmjidhpmbcoiaa
namespace Go.Proofs.Ytmmjidhpmbcoiaa
open Go.RowKit
set_option linter.unusedVariables false
set_option linter.unusedSimpArgs false
section
variable (W : List Int) (t : Int) (n : Nat) (E : Nat → Cel) (ws : List Int)
/-- What is put into: the heap itself, or, where there is no room, the packed one. -/
noncomputable def qW : List Int := if (ws.length : Int) ≤ W.length - t then W else packW W t n E
noncomputable def qT : Int := if (ws.length : Int) ≤ W.length - t then t else packT W t n E
noncomputable def qE : Nat → Cel := if (ws.length : Int) ≤ W.length - t then E else packE E n
/-- The handle. -/
noncomputable def putH : Nat := lead (fun i => (qE W t n E ws i).v) n
/-- Whether it is put. -/
noncomputable def putB : Bool := decide ((ws.length : Int) ≤ (qW W t n E ws).length - qT W t n E ws) && decide (putH W t n E ws < 200)
noncomputable def putW : List Int := pst (qW W t n E ws) (qT W t n E ws).toNat ws ws.length
noncomputable def putT : Int := qT W t n E ws + ws.length
noncomputable def putN : Nat := if putH W t n E ws = n then n + 1 else n
noncomputable def putE : Nat → Cel := up (qE W t n E ws) (putH W t n E ws) ⟨qT W t n E ws, ws.length, true⟩
end
theorem pst_paste (X e : List Int) (k : Nat) : ∀ j, j ≤ e.length → k + j ≤ X.length → pst X k e j = paste X k e j
  | 0, _, _ => by simp [pst, paste]
  | j + 1, h1, h2 => by
    have ih := pst_paste X e k j (by omega) (by omega)
    apply List.ext_getElem?
    intro i
    have hl : (paste X k e (j + 1)).length = X.length := paste_length (by omega) (by omega)
    have hl0 : (paste X k e j).length = X.length := paste_length (by omega) (by omega)
    have hs : (pst X k e (j + 1)).length = X.length := pst_len X k e (j + 1)
    by_cases hi : i < X.length
    · rw [List.getElem?_eq_getElem (by omega), List.getElem?_eq_getElem (by omega)]
      congr 1
      have q1 := paste_at (l := X) (e := e) (k := k) (m := j + 1) (by omega) (by omega) i
      have q0 := paste_at (l := X) (e := e) (k := k) (m := j) (by omega) (by omega) i
      rw [List.getD_eq_getElem?_getD, List.getElem?_eq_getElem (by omega), Option.getD_some] at q1
      rw [q1]
      simp only [pst, ih]
      rw [List.getElem_set]
      by_cases he : k + j = i
      · rw [if_pos he, if_neg (by omega), if_pos (by omega)]
        congr 1
        omega
      · rw [if_neg he]
        rw [List.getD_eq_getElem?_getD, List.getElem?_eq_getElem (by omega), Option.getD_some] at q0
        rw [q0]
        by_cases h3 : i < k
        · rw [if_pos h3, if_pos h3]
        · rw [if_neg h3, if_neg h3]
          by_cases h4 : i < k + j
          · rw [if_pos h4, if_pos (by omega)]
          · rw [if_neg h4, if_neg (by omega)]
    · rw [List.getElem?_eq_none (by omega), List.getElem?_eq_none (by omega)]
/-- A heap in a box: its words, its cells, each in memory of its own from L on; blocks that it leaves alone (F). -/
def HB (L : Nat) (F : Nat → Prop) (g : Nat) (w : World) (x z : Value) (W : List Int) (t : Int) (n : Nat) (E : Nat → Cel) : Prop :=
  ∃ B1 C1 B2 C2, Box3 w g x (.int .i64 t) z 28 ∧ (L ≤ g ∧ L ≤ B1 ∧ C1 ≤ w.heap.size ∧ L ≤ B2 ∧ C2 ≤ w.heap.size) ∧ (C1 ≤ B2 ∨ C2 ≤ B1) ∧ (g < B1 ∨ C1 ≤ g) ∧ (g < B2 ∨ C2 ≤ g) ∧ (∀ k, F k → k < w.heap.size ∧ k ≠ g ∧ (k < B1 ∨ C1 ≤ k) ∧ (k < B2 ∨ C2 ≤ k)) ∧ Piece B1 C1 w x W ∧ CPiece B2 C2 w z n E
/-- The room of its cells is there. -/
def ZCap (w : World) (z : Value) (n : Nat) : Prop := ∃ a c, z = .slice a n c ∧ Cap w a n c
section
variable {L g : Nat} {F : Nat → Prop} {w w' : World} {x z : Value} {W : List Int} {t : Int} {n : Nat} {E : Nat → Cel}
theorem ZCap.keep (h : ZCap w z n) (hb : Below w.heap.size w w') : ZCap w' z n := by
  obtain ⟨a, c, e, h⟩ := h
  exact ⟨a, c, e, h.keep hb⟩
theorem HB.box (h : HB L F g w x z W t n E) : Box3 w g x (.int .i64 t) z 28 := by obtain ⟨_, _, _, _, h, _⟩ := h; exact h
theorem HB.le (h : HB L F g w x z W t n E) : L ≤ g ∧ g < w.heap.size := by
  have := h.box.lt
  obtain ⟨_, _, _, _, _, h, _⟩ := h
  omega
theorem HB.free (h : HB L F g w x z W t n E) : ∀ k, F k → k < w.heap.size ∧ k ≠ g := by
  obtain ⟨_, _, _, _, _, _, _, _, _, h, _⟩ := h
  exact fun k hk => ⟨(h k hk).1, (h k hk).2.1⟩
theorem HB.keep (h : HB L F g w x z W t n E) (hb : Below w.heap.size w w') : HB L F g w' x z W t n E := by
  obtain ⟨B1, C1, B2, C2, h1, h2, h3, h4, h5, hF, h6, h7⟩ := h
  have := hb.size
  exact ⟨B1, C1, B2, C2, h1.keep hb, by omega, h3, h4, h5, fun k hk => by have := hF k hk; omega, h6.keep hb, h7.keep hb⟩
/-- Something is set in a block that it leaves alone. -/
theorem HB.other (h : HB L F g w x z W t n E) {A : Nat} (hA : F A) (hw : Win A (A + 1) w w') : HB L F g w' x z W t n E := by
  obtain ⟨B1, C1, B2, C2, h1, h2, h3, h4, h5, hF, h6, h7⟩ := h
  have := hw.size
  have hf := hF A hA
  exact ⟨B1, C1, B2, C2, h1.win hw (by omega), by omega, h3, h4, h5, fun k hk => by have := hF k hk; omega, h6.win hw (by omega), h7.win hw (by omega)⟩
theorem HB.form (h : HB L F g w x z W t n E) : ∃ xa xc za zc, x = .slice xa W.length xc ∧ z = .slice za n zc := by
  obtain ⟨B1, C1, B2, C2, h1, h2, h3, h4, h5, hF, h6, h7⟩ := h
  obtain ⟨xa, xc, e1, _⟩ := h6
  obtain ⟨za, zc, e2, _⟩ := h7
  exact ⟨xa, xc, za, zc, e1, e2⟩
theorem HB.hx (h : HB L F g w x z W t n E) : HX L w.heap.size w (.agg #[x, .int .i64 t, z]) W t n E := by
  obtain ⟨B1, C1, B2, C2, h1, h2, h3, h4, h5, hF, h6, h7⟩ := h
  exact ⟨x, z, B1, C1, B2, C2, rfl, by omega, h3, h6, h7⟩
/-- A heap of one's own, laid into a box beside it. -/
theorem HB.lay {Lx C : Nat} (h : HX Lx C w (.agg #[x, .int .i64 t, z]) W t n E) (hb : Box3 w g x (.int .i64 t) z 28) (hC : C ≤ w.heap.size) (hg : g < Lx ∨ C ≤ g) (hL : L ≤ g ∧ L ≤ Lx) (hF : ∀ k, F k → k < w.heap.size ∧ k ≠ g ∧ (k < Lx ∨ C ≤ k)) : HB L F g w x z W t n E := by
  obtain ⟨x', z', B1, C1, B2, C2, e, m, d, h1, h2⟩ := h
  cases e
  exact ⟨B1, C1, B2, C2, hb, by omega, d, by omega, by omega, fun k hk => by have := hF k hk; omega, h1, h2⟩
/-- The top is set. -/
theorem HB.top (h : HB L F g w x z W t n E) (t' : Int) : HB L F g (w.setCell ⟨g, 1, none⟩ (.int .i64 t')) x z W t' n E := by
  obtain ⟨B1, C1, B2, C2, h1, h2, h3, h4, h5, hF, h6, h7⟩ := h
  have hw := win_setCell w g 1 (.int .i64 t')
  have hs := hw.size
  exact ⟨B1, C1, B2, C2, h1.set1 _, by omega, h3, h4, h5, fun k hk => by have := hF k hk; omega, h6.win hw (by omega), h7.win hw (by omega)⟩
/-- A word is looked at, and set. -/
theorem HB.word {xa : Option Addr} {xc : Nat} (h : HB L F g w (.slice xa W.length xc) z W t n E) {k : Nat} (hk : k < W.length) :
    ∃ gw off, xa = some ⟨gw, off, none⟩ ∧ L ≤ gw ∧ (∀ k, F k → k ≠ gw) ∧ w.cell? ⟨gw, off + k, none⟩ = some (.int .i64 (W.getD k 0)) ∧ w.frozen? ⟨gw, off + k, none⟩ = false ∧ ∀ u : Int, HB L F g (w.setCell ⟨gw, off + k, none⟩ (.int .i64 u)) (.slice xa W.length xc) z (W.set k u) t n E := by
  obtain ⟨B1, C1, B2, C2, h1, h2, h3, h4, h5, hF, h6, h7⟩ := h
  obtain ⟨a, c, e, hle, h6⟩ := h6
  cases e
  rcases h6 with rfl | ⟨gw, off, cur, ty, rfl, q1, q2, hg, hc⟩
  · simp at hk
  refine ⟨gw, off, rfl, by omega, fun k hk => by have := hF k hk; omega, cell_at hg (hc k hk), free_at hg _, fun u => ?_⟩
  have hw := win_setCell w gw (off + k) (.int .i64 u)
  have hsz' := hw.size
  have hs := heap_setCell_same w gw (off + k) _ _ (.int .i64 u) hg
  refine ⟨B1, C1, B2, C2, h1.win hw (by omega), by omega, h3, h4, h5, fun k hk => by have := hF k hk; omega, ⟨_, _, by rw [List.length_set], by rw [List.length_set]; exact hle, .inr ⟨gw, off, _, ty, rfl, q1, q2, hs, fun j hj => ?_⟩⟩, h7.win hw (by omega)⟩
  rw [List.length_set] at hj
  have hsz := (Array.getElem?_eq_some_iff.1 (hc k hk)).1
  rw [Array.getElem?_setIfInBounds]
  by_cases e : k = j
  · subst e
    rw [if_pos rfl, if_pos hsz, List.getD_eq_getElem?_getD, List.getElem?_set_self hk]
    rfl
  · rw [if_neg (by omega), hc j hj]
    simp [List.getD_eq_getElem?_getD, List.getElem?_set_ne e]
/-- A cell is looked at, and set. -/
theorem HB.cell {za : Option Addr} {zc : Nat} (h : HB L F g w x (.slice za n zc) W t n E) {k : Nat} (hk : k < n) :
    ∃ gc, za = some ⟨gc, 0, none⟩ ∧ L ≤ gc ∧ (∀ k, F k → k ≠ gc) ∧ CBlk w gc n E ∧ ∀ c : Cel, HB L F g (((w.setCell ⟨gc, k * 3, none⟩ (.int .i64 c.f)).setCell ⟨gc, k * 3 + 1, none⟩ (.int .i64 c.l)).setCell ⟨gc, k * 3 + 2, none⟩ (.bool c.v)) x (.slice za n zc) W t n (up E k c) := by
  obtain ⟨B1, C1, B2, C2, h1, h2, h3, h4, h5, hF, h6, h7⟩ := h
  obtain ⟨a, c, e, hle, h7⟩ := h7
  cases e
  rcases h7 with rfl | ⟨gc, rfl, q1, q2, hb⟩
  · omega
  refine ⟨gc, rfl, by omega, fun k hk => by have := hF k hk; omega, hb, fun u => ?_⟩
  have hw := set3_win w gc k (.int .i64 u.f) (.int .i64 u.l) (.bool u.v)
  have hsz := hw.size
  exact ⟨B1, C1, B2, C2, h1.win hw (by omega), by omega, h3, h4, h5, fun k hk => by have := hF k hk; omega, h6.win hw (by omega), ⟨_, _, rfl, hle, .inr ⟨gc, rfl, q1, q2, hb.set hk u⟩⟩⟩
theorem HB.csA {za : Option Addr} {zc : Nat} (h : HB L F g w x (.slice za n zc) W t n E) : CsA w za n E := by
  obtain ⟨B1, C1, B2, C2, h1, h2, h3, h4, h5, hF, h6, h7⟩ := h
  obtain ⟨a, c, e, hle, h⟩ := h7.csI
  cases e
  exact h
/-- One cell more. -/
theorem HB.grow {za : Option Addr} {zc : Nat} (h : HB L F g w x (.slice za n zc) W t n E) (hc : ZCap w (.slice za n zc) n) (hn : n ≤ 1048576) (hL : L ≤ w.heap.size) (u : Cel) :
    ∃ a' c' w', (∀ ty, (Builtin.append_ #[26, 26] ty #[.slice za n zc, .slice (some ⟨w.heap.size, 0, none⟩) 1 1]).run Try.prog (w.alloc (.cells #[.int .i64 u.f, .int .i64 u.l, .bool u.v] 47)) = .ok (.slice a' (n + 1) c') w') ∧
      Box3 w' g x (.int .i64 t) (.slice za n zc) 28 ∧ HB L F g (w'.setCell ⟨g, 2, none⟩ (.slice a' (n + 1) c')) x (.slice a' (n + 1) c') W t (n + 1) (up E n u) ∧ Below L w w' ∧ ∀ k, F k → w'.heap[k]? = w.heap[k]? := by
  obtain ⟨B1, C1, B2, C2, h1, h2, h3, h4, h5, hF, h6, h7⟩ := h
  obtain ⟨a, c, e, hcap⟩ := hc
  cases e
  obtain ⟨a', c', B', C', w', hr, hp, hd, hw⟩ := growC h7 hcap hn (by omega) u
  have hs := hw.size
  have hg := h1.lt
  have b1 : Box3 w' g x (.int .i64 t) (.slice za n zc) 28 := h1.win hw (by omega)
  have hs2 := win_setCell w' g 2 (.slice a' (n + 1) c')
  refine ⟨a', c', w', hr, b1, ?_, hw.below (by omega) hL, fun k hk => hw.block k (hF k hk).1 (by have := hF k hk; omega)⟩
  have hs3 := hs2.size
  have hC' : C' ≤ w'.heap.size := by omega
  refine ⟨B1, C1, B', C', b1.set2 _, by omega, by omega, by omega, by omega, fun k hk => by have := hF k hk; omega, (h6.win hw (by omega)).win hs2 (by omega), hp.win hs2 (by omega)⟩
end
/-- A heap in memory of its own that has none of the blocks P. -/
def HXE (P : Nat → Prop) (B C : Nat) (w : World) (v : Value) (W : List Int) (t : Int) (n : Nat) (E : Nat → Cel) : Prop :=
  ∃ x z B1 C1 B2 C2, v = .agg #[x, .int .i64 t, z] ∧ (B ≤ B1 ∧ C1 ≤ C ∧ B ≤ B2 ∧ C2 ≤ C) ∧ (C1 ≤ B2 ∨ C2 ≤ B1) ∧ (∀ k, P k → (k < B1 ∨ C1 ≤ k) ∧ (k < B2 ∨ C2 ≤ k)) ∧ Piece B1 C1 w x W ∧ CPiece B2 C2 w z n E
section
variable {P : Nat → Prop} {B C : Nat} {w w' : World} {v : Value} {W : List Int} {t : Int} {n : Nat} {E : Nat → Cel}
theorem HXE.hx (h : HXE P B C w v W t n E) : HX B C w v W t n E := by
  obtain ⟨x, z, B1, C1, B2, C2, e, m, d, _, h1, h2⟩ := h
  exact ⟨x, z, B1, C1, B2, C2, e, m, d, h1, h2⟩
theorem HXE.less {P' : Nat → Prop} (h : HXE P B C w v W t n E) (hP : ∀ k, P' k → P k) : HXE P' B C w v W t n E := by
  obtain ⟨x, z, B1, C1, B2, C2, e, m, d, hp, h1, h2⟩ := h
  exact ⟨x, z, B1, C1, B2, C2, e, m, d, fun k hk => hp k (hP k hk), h1, h2⟩
theorem HXE.win {A : Nat} (h : HXE P B C w v W t n E) (hA : P A ∨ A < B) (hw : Win A (A + 1) w w') : HXE P B C w' v W t n E := by
  obtain ⟨x, z, B1, C1, B2, C2, e, m, d, hp, h1, h2⟩ := h
  have hq : (A < B1 ∨ C1 ≤ A) ∧ (A < B2 ∨ C2 ≤ A) := by
    rcases hA with hA | hA
    · exact hp A hA
    · omega
  exact ⟨x, z, B1, C1, B2, C2, e, m, d, hp, h1.win hw (by omega), h2.win hw (by omega)⟩
theorem HXE.keep (h : HXE P B C w v W t n E) (hb : Below w.heap.size w w') : HXE P B C w' v W t n E := by
  obtain ⟨x, z, B1, C1, B2, C2, e, m, d, hp, h1, h2⟩ := h
  exact ⟨x, z, B1, C1, B2, C2, e, m, d, hp, h1.keep hb, h2.keep hb⟩
end
theorem HB.hxe {L g : Nat} {F : Nat → Prop} {w : World} {x z : Value} {W : List Int} {t : Int} {n : Nat} {E : Nat → Cel} (h : HB L F g w x z W t n E) : HXE F L w.heap.size w (.agg #[x, .int .i64 t, z]) W t n E := by
  obtain ⟨B1, C1, B2, C2, h1, h2, h3, h4, h5, hF, h6, h7⟩ := h
  exact ⟨x, z, B1, C1, B2, C2, rfl, by omega, h3, fun k hk => (hF k hk).2.2, h6, h7⟩
/-- A piece all whose blocks stay. -/
theorem Piece.stay {B C : Nat} {w w' : World} {u : Value} {m : List Int} (h : Piece B C w u m) (hs : ∀ k, B ≤ k → k < C → w'.heap[k]? = w.heap[k]?) : Piece B C w' u m := by
  obtain ⟨a, c, rfl, hle, h⟩ := h
  refine ⟨a, c, rfl, hle, ?_⟩
  rcases h with rfl | ⟨g, off, cur, t, rfl, h1, h2, hg, r⟩
  · exact .inl rfl
  · exact .inr ⟨g, off, cur, t, rfl, h1, h2, by rw [hs g h1 h2]; exact hg, r⟩
end Go.Proofs.Ytmmjidhpmbcoiaa
namespace Go.Proofs.Ytmmjidhpmbcoiaa
open Go.RowKit
set_option linter.unusedVariables false
set_option linter.unusedSimpArgs false
theorem pack_specH2 {w : World} {v : Value} {W : List Int} {t : Int} {n : Nat} {E : Nat → Cel} (h : HI w v W t n E) (hk : hOkB W.length t n E = true) :
    Calls Try.prog 62 #[v] w fun e w' => ∃ v', e = .returned v' ∧ HX w.heap.size w'.heap.size w' v' (packW W t n E) (packT W t n E) n (packE E n) ∧ CapH w' v' n ∧ Below w.heap.size w w' := by
  have ok := hOkB_iff.1 hk
  refine (pack_spec2 h ok (ordH_ord E n)).mono ?_
  rintro e w' ⟨v', rfl, hX, hc, hb⟩
  refine ⟨v', rfl, ?_, hc, hb⟩
  unfold packW packT packE
  rw [if_pos hk, if_pos hk]
  exact hX.congr fun i hi => (pkC_end ok (ordH_ord E n) hi).symm
theorem up_up (E : Nat → Cel) (k : Nat) (c d : Cel) : up (up E k c) k d = up E k d := by
  funext i
  by_cases h : i = k <;> simp [up, h]
theorem HX.zcap {B C : Nat} {w : World} {x y z : Value} {W : List Int} {t : Int} {n : Nat} {E : Nat → Cel} (h : CapH w (.agg #[x, y, z]) n) : ZCap w z n := by
  obtain ⟨x', y', a, c, e, h⟩ := h
  cases e
  exact ⟨a, c, rfl, h⟩
/-- What is packed is right. -/
theorem pack_bd {W : List Int} {t : Int} {n : Nat} {E : Nat → Cel} (hk : hOkB W.length t n E = true) : (packW W t n E).length = W.length ∧ 0 ≤ packT W t n E ∧ packT W t n E ≤ W.length := by
  have ok := hOkB_iff.1 hk
  have q := pk_lenS ok (ordH_ord E n) (Nat.le_refl _)
  unfold packW packT
  rw [if_pos hk, if_pos hk]
  exact ⟨q.2, by omega, by omega⟩
theorem q_bd {W : List Int} {t : Int} {n : Nat} {E : Nat → Cel} {ws : List Int} (hk : hOkB W.length t n E = true) : (qW W t n E ws).length = W.length ∧ W.length ≤ 6000 ∧ 0 ≤ qT W t n E ws ∧ qT W t n E ws ≤ W.length ∧ n ≤ 200 := by
  have ok := hOkB_iff.1 hk
  have q := pack_bd hk
  have o1 := ok.1
  have o2 := ok.2.1
  have o3 := ok.2.2.1
  have o4 := ok.2.2.2.1
  unfold qW qT
  split <;> omega
/-- No block has turned but those from L on, and of those that were there only what lies below C. -/
def WW (L C : Nat) (w w' : World) : Prop := Below L w w' ∧ ∀ k, C ≤ k → k < w.heap.size → w'.heap[k]? = w.heap[k]?
section
variable {L C : Nat} {w w1 w2 : World}
theorem WW.of (hb : Below w.heap.size w w1) (hL : L ≤ w.heap.size) : WW L C w w1 := ⟨hb.mono hL, fun k _ hk => hb.block k hk⟩
theorem WW.keep (h : WW L C w w1) (hb : Below w1.heap.size w1 w2) (hL : L ≤ w.heap.size) : WW L C w w2 :=
  ⟨h.1.trans (hb.mono (Nat.le_trans hL h.1.size)), fun k h1 h2 => (hb.block k (Nat.lt_of_lt_of_le h2 h.1.size)).trans (h.2 k h1 h2)⟩
theorem WW.win {A : Nat} (h : WW L C w w1) (hw : Win A (A + 1) w1 w2) (hL : L ≤ w.heap.size) (hA : L ≤ A) (hd : A < C ∨ w.heap.size ≤ A) : WW L C w w2 :=
  ⟨h.1.trans (hw.below hA (Nat.le_trans hL h.1.size)), fun k h1 h2 => (hw.block k (Nat.lt_of_lt_of_le h2 h.1.size) (by omega)).trans (h.2 k h1 h2)⟩
theorem WW.drew (h : WW L C w w1) : WW L C w w1.drew := ⟨h.1.drew, h.2⟩
theorem WW.grow (h : WW L C w w1) (hb : Below L w1 w2) (hk : ∀ k, C ≤ k → k < w.heap.size → w2.heap[k]? = w1.heap[k]?) : WW L C w w2 :=
  ⟨h.1.trans hb, fun k h1 h2 => (hk k h1 h2).trans (h.2 k h1 h2)⟩
theorem free_or {F : Nat → Prop} {g N : Nat} (h : ∀ k, F k → k ≠ g) (hF : ∀ k, C ≤ k → k < N → F k) : g < C ∨ N ≤ g := by
  by_cases h1 : g < C
  · exact .inl h1
  · by_cases h2 : g < N
    · exact absurd rfl (h g (hF g (by omega) h2))
    · exact .inr (by omega)
end
/-- What l13Put answers. -/
def PutPost (L C : Nat) (w : World) (W : List Int) (t : Int) (n : Nat) (E : Nat → Cel) (ws : List Int) (e : Ending) (w' : World) : Prop :=
  ∃ xa xm xc t' za zn zc, e = .returned (.tuple #[.agg #[.slice xa xm xc, .int .i64 t', .slice za zn zc], .int .i64 (if putB W t n E ws = true then (putH W t n E ws : Int) else -1), .bool (putB W t n E ws)]) ∧ (putB W t n E ws = true → HXE (fun k => C ≤ k ∧ k < w.heap.size) L w'.heap.size w' (.agg #[.slice xa xm xc, .int .i64 t', .slice za zn zc]) (putW W t n E ws) (putT W t n E ws) (putN W t n E ws) (putE W t n E ws)) ∧ WW L C w w'
set_option maxRecDepth 20000 in
set_option maxHeartbeats 16000000 in
/-- l13Put. -/
theorem put_spec {L C : Nat} {w : World} {v u : Value} {W : List Int} {t : Int} {n : Nat} {E : Nat → Cel} {s d : List Int} (h : HX L C w v W t n E) (hC : C ≤ w.heap.size) (hc : CapH w v n) (hk : hOkB W.length t n E = true) (hL : L ≤ w.heap.size) (ha : ArrI w u s d) (hsd : s.length + d.length ≤ 1000000) :
    Calls Try.prog 55 #[v, u] w fun e w' => PutPost L C w W t n E (wsA s d) e w' := by
  obtain ⟨xa, xc, za, zc, rfl⟩ := h.form
  have HH : Hid (HX L C w (.agg #[.slice xa W.length xc, .int .i64 t, .slice za n zc]) W t n E) := h
  have HC : Hid (CapH w (.agg #[.slice xa W.length xc, .int .i64 t, .slice za n zc]) n) := hc
  have HK : Hid (hOkB W.length t n E = true) := hk
  have HL : Hid (L ≤ w.heap.size) := hL
  have CW : Hid (∀ V, Below w.heap.size w V → Calls Try.prog 94 #[u] V fun e w' => ∃ a c, e = .returned (.slice a (wsA s d).length c) ∧ Piece V.heap.size w'.heap.size w' (.slice a (wsA s d).length c) (wsA s d) ∧ Below V.heap.size V w') := fun V hb => words_spec (ha.keep hb) hsd
  obtain ⟨sa, sc, da, dc, rfl, _⟩ := ha
  have LW : Hid ((wsA s d).length ≤ 1000001) := by show _ ≤ _; rw [wsA_len]; omega
  obtain ⟨ok1, ok2, ok3, ok4⟩ : W.length ≤ 6000 ∧ 0 ≤ t ∧ t ≤ W.length ∧ n ≤ 200 := by have := hOkB_iff.1 hk; exact ⟨this.1, this.2.1, this.2.2.1, this.2.2.2.1⟩
  generalize wsA s d = ws at *
  clear h hc hk hL
  go_enter Try.func55, Try.ntmps55
  go_wp2_with fail
  generalize hV : ((w.alloc (.cells #[.slice xa W.length xc, .int .i64 t, .slice za n zc] 28)).alloc (.cells #[.slice sa s.length sc, .slice da d.length dc] 32)).alloc (.cells #[.slice none 0 0, .int .i64 0, .slice none 0 0] 28) = V
  have B1 : Hid (Below w.heap.size w V) := by rw [← hV]; exact bAlloc (bAlloc (bAlloc (Below.refl _ _) _) _) _
  have SV : V.heap.size = w.heap.size + 1 + 1 + 1 := by rw [← hV]; simp
  have X1 : Hid (Box3 V w.heap.size (.slice xa W.length xc) (.int .i64 t) (.slice za n zc) 28) := by rw [← hV]; exact ((box3_new _ _ _ _ _).alloc _).alloc _
  have Y1 : Hid (Box3 V (w.heap.size + 1 + 1) (.slice none 0 0) (.int .i64 0) (.slice none 0 0) 28) := by
    have := box3_new ((w.alloc (.cells #[.slice xa W.length xc, .int .i64 t, .slice za n zc] 28)).alloc (.cells #[.slice sa s.length sc, .slice da d.length dc] 32)) (.slice none 0 0) (.int .i64 0) (.slice none 0 0) 28
    show Box3 _ _ _ _ _ _
    rw [← hV]; simpa using this
  clear hV
  refine (CW.out _ B1.out).mono ?_
  rintro r w2 ⟨pa, pc, rfl, hP, hb⟩
  have b2 : Below w.heap.size w w2 := bTrans B1.out hb
  have B2 : Hid (WW L C w w2) := WW.of b2 HL.out
  obtain ⟨F, hF⟩ : ∃ F : Nat → Prop, F = (fun k => k = w.heap.size + 1 + 1 ∨ (V.heap.size ≤ k ∧ k < w2.heap.size) ∨ (C ≤ k ∧ k < w.heap.size)) := ⟨_, rfl⟩
  obtain ⟨P1, hP1⟩ : ∃ P1, P1 = V.heap.size := ⟨_, rfl⟩
  obtain ⟨P2, hP2⟩ : ∃ P2, P2 = w2.heap.size := ⟨_, rfl⟩
  have PW2 : Hid (Piece P1 P2 w2 (.slice pa ws.length pc) ws) := by rw [hP1, hP2]; exact hP
  have FR : Hid (F (w.heap.size + 1 + 1)) := by rw [hF]; exact .inl rfl
  have FP : Hid (∀ k, P1 ≤ k → k < P2 → F k) := fun k h1 h2 => by rw [hF]; exact .inr (.inl ⟨by omega, by omega⟩)
  have FC : Hid (∀ k, C ≤ k → k < w.heap.size → F k) := fun k h1 h2 => by rw [hF]; exact .inr (.inr ⟨h1, h2⟩)
  have hs2 := hb.size
  have hl0 := HL.out
  have H2 : Hid (HB L F w.heap.size w2 (.slice xa W.length xc) (.slice za n zc) W t n E) := HB.lay (HH.out.keep b2) (X1.out.keep hb) (by have := b2.size; omega) (.inr hC) (by omega) (fun k hk => by rw [hF] at hk; rcases hk with rfl | hk | hk <;> omega)
  have Z2 : Hid (ZCap w2 (.slice za n zc) n) := (HX.zcap (B := 0) (C := 0) (W := W) (t := t) (E := E) HC.out).keep b2
  have Y2 : Hid (Box3 w2 (w.heap.size + 1 + 1) (.slice none 0 0) (.int .i64 0) (.slice none 0 0) 28) := Y1.out.keep hb
  have FB : Hid (∀ k, F k → k < w2.heap.size ∧ k ≠ w.heap.size) := H2.out.free
  clear hP hb b2 X1 Y1 CW HH HC hF hs2 hl0 hP1
  have PB : Hid (putB W t n E ws = (decide ((ws.length : Int) ≤ (qW W t n E ws).length - qT W t n E ws) && decide (putH W t n E ws < 200))) := rfl
  have PH : Hid (putH W t n E ws = lead (fun i => (qE W t n E ws i).v) n) := rfl
  have PWd : Hid (putW W t n E ws = pst (qW W t n E ws) (qT W t n E ws).toNat ws ws.length) := rfl
  have PT : Hid (putT W t n E ws = qT W t n E ws + ws.length) := rfl
  have PN : Hid (putN W t n E ws = if putH W t n E ws = n then n + 1 else n) := rfl
  have PE : Hid (putE W t n E ws = up (qE W t n E ws) (putH W t n E ws) ⟨qT W t n E ws, ws.length, true⟩) := rfl
  have QB := q_bd (ws := ws) HK.out
  have hwr : IntKind.i64.wrap ((W.length : Int) - t) = (W.length : Int) - t := by rw [IntKind.wrap_i64]; omega
  have x0 := H2.out.box.c0
  have x1 := H2.out.box.c1
  go_upto_if 20 with fail
  obtain ⟨q, hq⟩ : ∃ q, q = decide ((W.length : Int) - t < (ws.length : Int)) := ⟨_, rfl⟩
  rw [← hq]
  go_cut [] from 21 (fun w' => ∃ (xa : Option Addr) (xc : Nat) (za : Option Addr) (zc : Nat), HB L F w.heap.size w' (.slice xa (qW W t n E ws).length xc) (.slice za n zc) (qW W t n E ws) (qT W t n E ws) n (qE W t n E ws) ∧ ZCap w' (.slice za n zc) n ∧ Piece P1 P2 w' (.slice pa ws.length pc) ws ∧ Box3 w' (w.heap.size + 1 + 1) (.slice none 0 0) (.int .i64 0) (.slice none 0 0) 28 ∧ WW L C w w')
  case first =>
    cases q
    · have hr : (ws.length : Int) ≤ (W.length : Int) - t := by have := of_decide_eq_false hq.symm; omega
      have e1 : qW W t n E ws = W := if_pos hr
      have e2 : qT W t n E ws = t := if_pos hr
      have e3 : qE W t n E ws = E := if_pos hr
      clear hq
      go_wp2_with fail
      go_meet
      case rel => rw [e1, e2, e3]; exact ⟨xa, xc, za, zc, H2.out, Z2.out, PW2.out, Y2.out, B2.out⟩
    · have hr : ¬ ((ws.length : Int) ≤ (W.length : Int) - t) := by have := of_decide_eq_true hq.symm; omega
      have e1 : qW W t n E ws = packW W t n E := if_neg hr
      have e2 : qT W t n E ws = packT W t n E := if_neg hr
      have e3 : qE W t n E ws = packE E n := if_neg hr
      clear hq
      have x2 := H2.out.box.c2
      go_wp2_with fail
      refine (pack_specH2 H2.out.hx.hi HK.out).mono ?_
      rintro r w3 ⟨v3, rfl, hX, hcap, hb⟩
      obtain ⟨ya, yc, ua, uc, rfl⟩ := hX.form
      have hg3 := H2.out.box.keep hb
      have f0 := hg3.free 0
      have f1 := hg3.free 1
      have f2 := hg3.free 2
      have c0 := hg3.c0
      have c1 := hg3.c1
      have c2 := hg3.c2
      have hs3 := hb.size
      have hle := H2.out.le
      have hl0 := HL.out
      have wz : Win w.heap.size (w.heap.size + 1) w3 (((w3.setCell ⟨w.heap.size, 0, none⟩ (.slice ya (packW W t n E).length yc)).setCell ⟨w.heap.size, 1, none⟩ (.int .i64 (packT W t n E))).setCell ⟨w.heap.size, 2, none⟩ (.slice ua n uc)) := ((win_setCell _ _ _ _).trans (win_setCell _ _ _ _)).trans (win_setCell _ _ _ _)
      have sz : (((w3.setCell ⟨w.heap.size, 0, none⟩ (.slice ya (packW W t n E).length yc)).setCell ⟨w.heap.size, 1, none⟩ (.int .i64 (packT W t n E))).setCell ⟨w.heap.size, 2, none⟩ (.slice ua n uc)).heap.size = w3.heap.size := by simp [World.setCell]
      have H4 : Hid (HB L F w.heap.size (((w3.setCell ⟨w.heap.size, 0, none⟩ (.slice ya (packW W t n E).length yc)).setCell ⟨w.heap.size, 1, none⟩ (.int .i64 (packT W t n E))).setCell ⟨w.heap.size, 2, none⟩ (.slice ua n uc)) (.slice ya (packW W t n E).length yc) (.slice ua n uc) (packW W t n E) (packT W t n E) n (packE E n)) := HB.lay (hX.win wz (.inr (by omega))) (((hg3.set0 _).set1 _).set2 _) (by omega) (.inl hle.2) ⟨by omega, by omega⟩ (fun k hk => by have := FB.out k hk; omega)
      have Z4 : Hid (ZCap (((w3.setCell ⟨w.heap.size, 0, none⟩ (.slice ya (packW W t n E).length yc)).setCell ⟨w.heap.size, 1, none⟩ (.int .i64 (packT W t n E))).setCell ⟨w.heap.size, 2, none⟩ (.slice ua n uc)) (.slice ua n uc) n) := by
        obtain ⟨a, c, e, h⟩ := HX.zcap (B := 0) (C := 0) (W := W) (t := t) (E := E) hcap
        exact ⟨a, c, e, ((h.set _ _ _).set _ _ _).set _ _ _⟩
      have P4 : Hid (Piece P1 P2 (((w3.setCell ⟨w.heap.size, 0, none⟩ (.slice ya (packW W t n E).length yc)).setCell ⟨w.heap.size, 1, none⟩ (.int .i64 (packT W t n E))).setCell ⟨w.heap.size, 2, none⟩ (.slice ua n uc)) (.slice pa ws.length pc) ws) := (PW2.out.keep hb).stay fun k h1 h2 => wz.block k (by have := (FB.out k (FP.out k h1 h2)).1; omega) (by have := (FB.out k (FP.out k h1 h2)).2; omega)
      have Y4 : Hid (Box3 (((w3.setCell ⟨w.heap.size, 0, none⟩ (.slice ya (packW W t n E).length yc)).setCell ⟨w.heap.size, 1, none⟩ (.int .i64 (packT W t n E))).setCell ⟨w.heap.size, 2, none⟩ (.slice ua n uc)) (w.heap.size + 1 + 1) (.slice none 0 0) (.int .i64 0) (.slice none 0 0) 28) := (Y2.out.keep hb).win wz (.inr (by omega))
      have B4 : Hid (WW L C w (((w3.setCell ⟨w.heap.size, 0, none⟩ (.slice ya (packW W t n E).length yc)).setCell ⟨w.heap.size, 1, none⟩ (.int .i64 (packT W t n E))).setCell ⟨w.heap.size, 2, none⟩ (.slice ua n uc))) := (B2.out.keep hb HL.out).win wz HL.out HL.out (.inr (Nat.le_refl _))
      clear hX hcap hb hg3 wz sz hs3 hle hl0
      go_wp2_with fail
      go_meet
      case rel => rw [e1, e2, e3]; exact ⟨ya, yc, ua, uc, H4.out, Z4.out, P4.out, Y4.out, B4.out⟩
  obtain ⟨w4, hwc⟩ : ∃ x, x = wc := ⟨_, rfl⟩
  subst hwc
  clear H2 Z2 Y2 B2 PW2 x0 x1 FB
  obtain ⟨ya, yc, ua, uc, h4, z4, p4, y4, b4⟩ := hcut
  have q2 : (qW W t n E ws).length ≤ 6000 := by rw [QB.1]; exact QB.2.1
  have q3 := QB.2.2.1
  have q4 : qT W t n E ws ≤ (qW W t n E ws).length := by rw [QB.1]; exact QB.2.2.2.1
  clear QB hwr hq
  generalize qW W t n E ws = QW at *
  generalize qT W t n E ws = QT at *
  generalize qE W t n E ws = QE at *
  have H4 : Hid (HB L F w.heap.size w4 (.slice ya QW.length yc) (.slice ua n uc) QW QT n QE) := h4
  have Z4 : Hid (ZCap w4 (.slice ua n uc) n) := z4
  have P4 : Hid (Piece P1 P2 w4 (.slice pa ws.length pc) ws) := p4
  have Y4 : Hid (Box3 w4 (w.heap.size + 1 + 1) (.slice none 0 0) (.int .i64 0) (.slice none 0 0) 28) := y4
  have B4 : Hid (WW L C w w4) := b4
  clear h4 z4 p4 y4 b4
  have x0 := H4.out.box.c0
  have x1 := H4.out.box.c1
  have x2 := H4.out.box.c2
  have hwr : IntKind.i64.wrap ((QW.length : Int) - QT) = (QW.length : Int) - QT := by rw [IntKind.wrap_i64]; omega
  go_wp2_with fail
  go_loopw [8] (fun i w' => ∃ k : Nat, k ≤ n ∧ i = .int .i64 (k : Int) ∧ (∀ j, j < k → (QE j).v = true) ∧ w' = w4) (fun i _ => n - (intOf i).toNat)
  case atStart => exact ⟨0, by omega, rfl, fun j hj => absurd hj (by omega), rfl⟩
  case round =>
    obtain ⟨k, hk, rfl, hA, hw⟩ := hrel
    have hw' := hw.symm
    clear hw
    subst hw'
    have HA : Hid (∀ j, j < k → (QE j).v = true) := hA
    clear hA
    by_cases hlt : (k : Int) < (n : Int)
    · have L' : k < n := by omega
      obtain ⟨gc, eza, hLc, hFc, cb, hset⟩ := H4.out.cell L'
      subst eza
      obtain ⟨c0, c1, c2, g0, g1, g2⟩ := cb.cells L'
      cases hv : (QE k).v
      · rw [hv] at c2
        have HH : Hid (putH W t n E ws = k) := PH.out.trans (lead_eq hk HA.out (.inr hv))
        clear PH hv
        have k200 : ¬ ((k : Int) = 200) := by omega
        have k200b : ((k : Int) == 200) = false := by simp; omega
        by_cases hroom : (QW.length : Int) - QT < (ws.length : Int)
        · have QV : Hid (putB W t n E ws = false) := by show _ = _; rw [PB.out, HH.out]; first | (simp; omega) | (simp; intros; omega)
          have r0 := Y4.out.c0
          have r1 := Y4.out.c1
          have r2 := Y4.out.c2
          have f0 := Y4.out.free 0
          have f1 := Y4.out.free 1
          have f2 := Y4.out.free 2
          go_wp2
          clear r0 r1 r2 f0 f1 f2
          generalize hZ : ((w4.setCell ⟨w.heap.size + 1 + 1, 0, none⟩ (.slice ya QW.length yc)).setCell ⟨w.heap.size + 1 + 1, 1, none⟩ (.int .i64 QT)).setCell ⟨w.heap.size + 1 + 1, 2, none⟩ (.slice (some ⟨gc, 0, none⟩) n uc) = wz
          have YZ : Box3 wz (w.heap.size + 1 + 1) (.slice ya QW.length yc) (.int .i64 QT) (.slice (some ⟨gc, 0, none⟩) n uc) 28 := by rw [← hZ]; exact ((Y4.out.set0 _).set1 _).set2 _
          have hl0 := HL.out
          have BZ : WW L C w wz := by rw [← hZ]; exact B4.out.win (((win_setCell _ _ _ _).trans (win_setCell _ _ _ _)).trans (win_setCell _ _ _ _)) hl0 (by omega) (.inr (by omega))
          have v0 := YZ.c0
          have v1 := YZ.c1
          have v2 := YZ.c2
          refine bodyPost_ret (v := .tuple #[.agg #[.slice ya QW.length yc, .int .i64 QT, .slice (some ⟨gc, 0, none⟩) n uc], .int .i64 (-1), .bool false]) (by simp [results, Try.results55, go_sem, v0, v1, v2]) rfl ?_
          exact ⟨_, _, _, _, _, _, _, by rw [QV.out]; rfl, fun h => absurd h (by rw [QV.out]; decide), BZ⟩
        · have hro : Hid ((ws.length : Int) ≤ (QW.length : Int) - QT) := by show _ ≤ _; omega
          have QV : Hid (putB W t n E ws = true) := by show _ = _; rw [PB.out, HH.out]; simp; omega
          have PNE : Hid ((if k = n then n + 1 else n) = n) := if_neg (by omega)
          have kne : ¬ ((k : Int) = (n : Int)) := by omega
          have kneb : ((k : Int) == (n : Int)) = false := by simp; omega
          have hwin := set3_win w4 gc k (.int .i64 QT) (.int .i64 (ws.length : Int)) (.bool true)
          have H5 : Hid (HB L F w.heap.size (((w4.setCell ⟨gc, k * 3, none⟩ (.int .i64 QT)).setCell ⟨gc, k * 3 + 1, none⟩ (.int .i64 (ws.length : Int))).setCell ⟨gc, k * 3 + 2, none⟩ (.bool true)) (.slice ya QW.length yc) (.slice (some ⟨gc, 0, none⟩) n uc) QW QT n (up QE k ⟨QT, ws.length, true⟩)) := hset ⟨QT, ws.length, true⟩
          have P5 : Hid (Piece P1 P2 (((w4.setCell ⟨gc, k * 3, none⟩ (.int .i64 QT)).setCell ⟨gc, k * 3 + 1, none⟩ (.int .i64 (ws.length : Int))).setCell ⟨gc, k * 3 + 2, none⟩ (.bool true)) (.slice pa ws.length pc) ws) := P4.out.stay fun q h1 h2 => hwin.block q (H4.out.free q (FP.out q h1 h2)).1 (by have := hFc q (FP.out q h1 h2); omega)
          have Y5 : Hid (Box3 (((w4.setCell ⟨gc, k * 3, none⟩ (.int .i64 QT)).setCell ⟨gc, k * 3 + 1, none⟩ (.int .i64 (ws.length : Int))).setCell ⟨gc, k * 3 + 2, none⟩ (.bool true)) (w.heap.size + 1 + 1) (.slice none 0 0) (.int .i64 0) (.slice none 0 0) 28) := Y4.out.win hwin (by have := hFc _ FR.out; omega)
          have B5 : Hid (WW L C w (((w4.setCell ⟨gc, k * 3, none⟩ (.int .i64 QT)).setCell ⟨gc, k * 3 + 1, none⟩ (.int .i64 (ws.length : Int))).setCell ⟨gc, k * 3 + 2, none⟩ (.bool true))) := B4.out.win hwin HL.out hLc (free_or hFc FC.out)
          clear hset hwin cb hFc
          go_upto_region 12 with fail
          go_wp2_with fail
          clear c0 c1 c2 g0 g1 g2 x0 x1 x2
          generalize ((w4.setCell ⟨gc, k * 3, none⟩ (.int .i64 QT)).setCell ⟨gc, k * 3 + 1, none⟩ (.int .i64 (ws.length : Int))).setCell ⟨gc, k * 3 + 2, none⟩ (.bool true) = w5 at *
          have hT : ((QT.toNat : Nat) : Int) = QT := by omega
          generalize QT.toNat = T at *
          subst hT
          have hwl : ws.length ≤ 1000001 := LW.out
          have x1 := H5.out.box.c1
          go_loopw [9] (fun i w' => ∃ j : Nat, j ≤ ws.length ∧ i = .int .i64 (j : Int) ∧ (HB L F w.heap.size w' (.slice ya QW.length yc) (.slice (some ⟨gc, 0, none⟩) n uc) (pst QW T ws j) (T : Int) n (up QE k ⟨(T : Int), ws.length, true⟩) ∧ Piece P1 P2 w' (.slice pa ws.length pc) ws ∧ Box3 w' (w.heap.size + 1 + 1) (.slice none 0 0) (.int .i64 0) (.slice none 0 0) 28) ∧ WW L C w w') (fun i _ => ws.length - (intOf i).toNat)
          case atStart => exact ⟨0, by omega, rfl, ⟨H5.out, P5.out, Y5.out⟩, B5.out⟩
          case round =>
            obtain ⟨j, hj, rfl, ⟨h6, p6, y6⟩, b6⟩ := hrel
            have H6 : Hid (HB L F w.heap.size wr (.slice ya QW.length yc) (.slice (some ⟨gc, 0, none⟩) n uc) (pst QW T ws j) (T : Int) n (up QE k ⟨(T : Int), ws.length, true⟩)) := h6
            have P6 : Hid (Piece P1 P2 wr (.slice pa ws.length pc) ws) := p6
            have Y6 : Hid (Box3 wr (w.heap.size + 1 + 1) (.slice none 0 0) (.int .i64 0) (.slice none 0 0) 28) := y6
            have B6 : Hid (WW L C w wr) := b6
            clear h6 p6 y6 b6 H5 P5 Y5 B5 x1
            by_cases hjl : (j : Int) < (ws.length : Int)
            · have LJ : j < ws.length := by omega
              have h7 : HB L F w.heap.size wr (.slice ya (pst QW T ws j).length yc) (.slice (some ⟨gc, 0, none⟩) n uc) (pst QW T ws j) (T : Int) n (up QE k ⟨(T : Int), ws.length, true⟩) := by rw [pst_len]; exact H6.out
              obtain ⟨gw, off, exa, hLg, hFg, cw, fw, hset⟩ := h7.word (k := T + j) (by rw [pst_len]; omega)
              obtain ⟨pa', pc', epa, hpi⟩ := P6.out.ints
              cases epa
              obtain ⟨b1, o1, epa, _, cj⟩ := hpi.at LJ
              have y0 := H6.out.box.c0
              have y1 := H6.out.box.c1
              have hw1 : IntKind.i64.wrap ((T : Int) + (j : Int)) = (T : Int) + (j : Int) := by rw [IntKind.wrap_i64]; omega
              have hn0 : (0 : Int) ≤ (T : Int) + (j : Int) := by omega
              have hn1 : (T : Int) + (j : Int) < (QW.length : Int) := by omega
              have hn2 : ((T : Int) + (j : Int)).toNat = T + j := by omega
              have hwin := win_setCell wr gw (off + (T + j)) (.int .i64 (ws.getD j 0))
              have H8 : Hid (HB L F w.heap.size (wr.setCell ⟨gw, off + (T + j), none⟩ (.int .i64 (ws.getD j 0))) (.slice ya QW.length yc) (.slice (some ⟨gc, 0, none⟩) n uc) (pst QW T ws (j + 1)) (T : Int) n (up QE k ⟨(T : Int), ws.length, true⟩)) := by
                have := hset (ws.getD j 0)
                rw [pst_len] at this
                exact this
              have P8 : Hid (Piece P1 P2 (wr.setCell ⟨gw, off + (T + j), none⟩ (.int .i64 (ws.getD j 0))) (.slice pa ws.length pc) ws) := P6.out.stay fun k h1 h2 => hwin.block k (H6.out.free k (FP.out k h1 h2)).1 (by have := hFg k (FP.out k h1 h2); omega)
              have Y8 : Hid (Box3 (wr.setCell ⟨gw, off + (T + j), none⟩ (.int .i64 (ws.getD j 0))) (w.heap.size + 1 + 1) (.slice none 0 0) (.int .i64 0) (.slice none 0 0) 28) := Y6.out.other (hFg _ FR.out) _
              have B8 : Hid (WW L C w (wr.setCell ⟨gw, off + (T + j), none⟩ (.int .i64 (ws.getD j 0)))) := B6.out.win hwin HL.out hLg (free_or hFg FC.out)
              subst exa
              subst epa
              have a0 := H8.out.box.c0
              have a1 := H8.out.box.c1
              have a2 : (wr.setCell ⟨gw, off + (T + j), none⟩ (.int .i64 (ws.getD j 0))).cell? ⟨b1, o1 + j, none⟩ = some (.int .i64 (ws.getD j 0)) := by
                obtain ⟨pa', pc', e, hpi8⟩ := P8.out.ints
                cases e
                obtain ⟨b', o', e, _, c8⟩ := hpi8.at LJ
                cases e
                exact c8
              generalize ws.getD j 0 = wj at *
              clear hset hwin h7 hpi hFg
              go_wp2_with fail
              go_region_held3 (fun w' => w'.cell? ⟨w.heap.size, 0, none⟩ = some (.slice (some ⟨gw, off, none⟩) QW.length yc) ∧ w'.cell? ⟨w.heap.size, 1, none⟩ = some (.int .i64 (T : Int)) ∧ w'.cell? ⟨b1, o1 + j, none⟩ = some (.int .i64 wj))
                (first | exact ⟨y0, y1, cj⟩ | exact ⟨a0, a1, a2⟩)
                (fail)
              all_goals
                go_wp2
                go_roundw
                case rel => exact ⟨j + 1, by omega, by go_num, ⟨H8.out, P8.out, Y8.out⟩, B8.out.drew⟩
                case measure => simp [intOf]; omega
            · obtain rfl : j = ws.length := by omega
              have y1 := H6.out.box.c1
              have y0 := H6.out.box.c0
              have y2 := H6.out.box.c2
              have g1 := H6.out.box.free 1
              have hw1 : IntKind.i64.wrap ((T : Int) + (ws.length : Int)) = (T : Int) + (ws.length : Int) := by rw [IntKind.wrap_i64]; omega
              have H9 : Hid (HB L F w.heap.size (wr.setCell ⟨w.heap.size, 1, none⟩ (.int .i64 ((T : Int) + (ws.length : Int)))) (.slice ya QW.length yc) (.slice (some ⟨gc, 0, none⟩) n uc) (pst QW T ws ws.length) ((T : Int) + (ws.length : Int)) n (up QE k ⟨(T : Int), ws.length, true⟩)) := H6.out.top _
              have Y9 : Hid (Box3 (wr.setCell ⟨w.heap.size, 1, none⟩ (.int .i64 ((T : Int) + (ws.length : Int)))) (w.heap.size + 1 + 1) (.slice none 0 0) (.int .i64 0) (.slice none 0 0) 28) := Y6.out.other (by omega) _
              have hl0 := HL.out
              have B9 : Hid (WW L C w (wr.setCell ⟨w.heap.size, 1, none⟩ (.int .i64 ((T : Int) + (ws.length : Int))))) := B6.out.win (win_setCell _ _ _ _) hl0 hl0 (.inr (Nat.le_refl _))
              go_upto_region 17 with fail
              clear y0 y1 y2 g1
              generalize wr.setCell ⟨w.heap.size, 1, none⟩ (.int .i64 ((T : Int) + (ws.length : Int))) = w9 at *
              have y0 := H9.out.box.c0
              have y1 := H9.out.box.c1
              have y2 := H9.out.box.c2
              have r0 := Y9.out.c0
              have r1 := Y9.out.c1
              have r2 := Y9.out.c2
              have f0 := Y9.out.free 0
              have f1 := Y9.out.free 1
              have f2 := Y9.out.free 2
              go_wp2
              clear y0 y1 y2 r0 r1 r2 f0 f1 f2
              have wzw : Win (w.heap.size + 1 + 1) (w.heap.size + 1 + 1 + 1) w9 (((w9.setCell ⟨w.heap.size + 1 + 1, 0, none⟩ (.slice ya QW.length yc)).setCell ⟨w.heap.size + 1 + 1, 1, none⟩ (.int .i64 ((T : Int) + (ws.length : Int)))).setCell ⟨w.heap.size + 1 + 1, 2, none⟩ (.slice (some ⟨gc, 0, none⟩) n uc)) := ((win_setCell _ _ _ _).trans (win_setCell _ _ _ _)).trans (win_setCell _ _ _ _)
              generalize hZ : ((w9.setCell ⟨w.heap.size + 1 + 1, 0, none⟩ (.slice ya QW.length yc)).setCell ⟨w.heap.size + 1 + 1, 1, none⟩ (.int .i64 ((T : Int) + (ws.length : Int)))).setCell ⟨w.heap.size + 1 + 1, 2, none⟩ (.slice (some ⟨gc, 0, none⟩) n uc) = wz at *
              have YZ : Box3 wz (w.heap.size + 1 + 1) (.slice ya QW.length yc) (.int .i64 ((T : Int) + (ws.length : Int))) (.slice (some ⟨gc, 0, none⟩) n uc) 28 := by rw [← hZ]; exact ((Y9.out.set0 _).set1 _).set2 _
              have BZ : WW L C w wz := B9.out.win wzw hl0 (by omega) (.inr (by omega))
              have HZ := (H9.out.other FR.out wzw).hxe.less (P' := fun k => C ≤ k ∧ k < w.heap.size) fun k hk => FC.out k hk.1 hk.2
              have v0 := YZ.c0
              have v1 := YZ.c1
              have v2 := YZ.c2
              refine bodyPost_ret (v := .tuple #[.agg #[.slice ya QW.length yc, .int .i64 ((T : Int) + (ws.length : Int)), (.slice (some ⟨gc, 0, none⟩) n uc)], .int .i64 (k : Int), .bool true]) (by simp [results, Try.results55, go_sem, v0, v1, v2]) rfl ?_
              refine ⟨_, _, _, _, _, _, _, by rw [QV.out, HH.out]; rfl, fun _ => ?_, BZ⟩
              rw [PWd.out, PT.out, PN.out, PE.out, HH.out, PNE.out]
              exact HZ
      · rw [hv] at c2
        have NX : Hid (∀ j, j < k + 1 → (QE j).v = true) := fun j hj => by
          by_cases e : j = k
          · rw [e]; exact hv
          · exact HA.out j (by omega)
        clear hv
        go_wp2
        go_roundw
        case rel => exact ⟨k + 1, by omega, by go_num, NX.out, by first | rfl | trivial⟩
        case measure => simp [intOf]; omega
    · obtain rfl : k = n := by omega
      have HH : Hid (putH W t k E ws = k) := PH.out.trans (lead_eq hk HA.out (.inl rfl))
      clear PH
      by_cases hroom : (QW.length : Int) - QT < (ws.length : Int)
      · have QV : Hid (putB W t k E ws = false) := by show _ = _; rw [PB.out, HH.out]; first | (simp; omega) | (simp; intros; omega)
        have r0 := Y4.out.c0
        have r1 := Y4.out.c1
        have r2 := Y4.out.c2
        have f0 := Y4.out.free 0
        have f1 := Y4.out.free 1
        have f2 := Y4.out.free 2
        go_wp2
        clear r0 r1 r2 f0 f1 f2
        generalize hZ : ((w4.setCell ⟨w.heap.size + 1 + 1, 0, none⟩ (.slice ya QW.length yc)).setCell ⟨w.heap.size + 1 + 1, 1, none⟩ (.int .i64 QT)).setCell ⟨w.heap.size + 1 + 1, 2, none⟩ (.slice ua k uc) = wz
        have YZ : Box3 wz (w.heap.size + 1 + 1) (.slice ya QW.length yc) (.int .i64 QT) (.slice ua k uc) 28 := by rw [← hZ]; exact ((Y4.out.set0 _).set1 _).set2 _
        have hl0 := HL.out
        have BZ : WW L C w wz := by rw [← hZ]; exact B4.out.win (((win_setCell _ _ _ _).trans (win_setCell _ _ _ _)).trans (win_setCell _ _ _ _)) hl0 (by omega) (.inr (by omega))
        have v0 := YZ.c0
        have v1 := YZ.c1
        have v2 := YZ.c2
        refine bodyPost_ret (v := .tuple #[.agg #[.slice ya QW.length yc, .int .i64 QT, .slice ua k uc], .int .i64 (-1), .bool false]) (by simp [results, Try.results55, go_sem, v0, v1, v2]) rfl ?_
        exact ⟨_, _, _, _, _, _, _, by rw [QV.out]; rfl, fun h => absurd h (by rw [QV.out]; decide), BZ⟩
      · by_cases hk2 : (k : Int) = 200
        · have hk3 : Hid (k = 200) := by show _ = _; omega
          have QV : Hid (putB W t k E ws = false) := by show _ = _; rw [PB.out, HH.out]; first | (simp; omega) | (simp; intros; omega)
          have r0 := Y4.out.c0
          have r1 := Y4.out.c1
          have r2 := Y4.out.c2
          have f0 := Y4.out.free 0
          have f1 := Y4.out.free 1
          have f2 := Y4.out.free 2
          go_wp2
          clear r0 r1 r2 f0 f1 f2
          generalize hZ : ((w4.setCell ⟨w.heap.size + 1 + 1, 0, none⟩ (.slice ya QW.length yc)).setCell ⟨w.heap.size + 1 + 1, 1, none⟩ (.int .i64 QT)).setCell ⟨w.heap.size + 1 + 1, 2, none⟩ (.slice ua k uc) = wz
          have YZ : Box3 wz (w.heap.size + 1 + 1) (.slice ya QW.length yc) (.int .i64 QT) (.slice ua k uc) 28 := by rw [← hZ]; exact ((Y4.out.set0 _).set1 _).set2 _
          have hl0 := HL.out
          have BZ : WW L C w wz := by rw [← hZ]; exact B4.out.win (((win_setCell _ _ _ _).trans (win_setCell _ _ _ _)).trans (win_setCell _ _ _ _)) hl0 (by omega) (.inr (by omega))
          have v0 := YZ.c0
          have v1 := YZ.c1
          have v2 := YZ.c2
          refine bodyPost_ret (v := .tuple #[.agg #[.slice ya QW.length yc, .int .i64 QT, .slice ua k uc], .int .i64 (-1), .bool false]) (by simp [results, Try.results55, go_sem, v0, v1, v2]) rfl ?_
          exact ⟨_, _, _, _, _, _, _, by rw [QV.out]; rfl, fun h => absurd h (by rw [QV.out]; decide), BZ⟩
        · have hk2b : ((k : Int) == 200) = false := by simp; omega
          have k2 : Hid (k < 200) := by show _ < _; omega
          have QV : Hid (putB W t k E ws = true) := by show _ = _; rw [PB.out, HH.out]; have := k2.out; simp; omega
          have keb : ((k : Int) == (k : Int)) = true := by simp
          have hlw4 : L ≤ w4.heap.size := Nat.le_trans HL.out B4.out.1.size
          obtain ⟨a5, c5, w5, r5, bx5, h5, b5, k5⟩ := H4.out.grow Z4.out (by omega) hlw4 cel0
          have R5 : Hid (∀ ty, (Builtin.append_ #[26, 26] ty #[.slice ua k uc, .slice (some ⟨w4.heap.size, 0, none⟩) 1 1]).run Try.prog (w4.alloc (.cells #[.int .i64 0, .int .i64 0, .bool false] 47)) = .ok (.slice a5 (k + 1) c5) w5) := r5
          have H5a : Hid (HB L F w.heap.size (w5.setCell ⟨w.heap.size, 2, none⟩ (.slice a5 (k + 1) c5)) (.slice ya QW.length yc) (.slice a5 (k + 1) c5) QW QT (k + 1) (up QE k cel0)) := h5
          have hwn := win_setCell w5 w.heap.size 2 (.slice a5 (k + 1) c5)
          have s5 := b5.size
          have P5a : Hid (Piece P1 P2 (w5.setCell ⟨w.heap.size, 2, none⟩ (.slice a5 (k + 1) c5)) (.slice pa ws.length pc) ws) := (P4.out.stay fun q h1 h2 => k5 q (FP.out q h1 h2)).stay fun q h1 h2 => hwn.block q (by have := (H4.out.free q (FP.out q h1 h2)).1; omega) (by have := (H4.out.free q (FP.out q h1 h2)).2; omega)
          have Y5a : Hid (Box3 (w5.setCell ⟨w.heap.size, 2, none⟩ (.slice a5 (k + 1) c5)) (w.heap.size + 1 + 1) (.slice none 0 0) (.int .i64 0) (.slice none 0 0) 28) := (show Box3 w5 _ _ _ _ _ by unfold Box3; rw [k5 _ FR.out]; exact Y4.out).other (by omega) _
          have B5a : Hid (WW L C w (w5.setCell ⟨w.heap.size, 2, none⟩ (.slice a5 (k + 1) c5))) := (B4.out.grow b5 fun q h1 h2 => k5 q (FC.out q h1 h2)).win (win_setCell _ _ _ _) HL.out HL.out (.inr (Nat.le_refl _))
          have n0 := bx5.c0
          have n1 := bx5.c1
          have n2 := bx5.c2
          have e2 := bx5.free 2
          have hx2 : ∀ O, (w4.alloc O).cell? ⟨w.heap.size, 2, none⟩ = some (.slice ua k uc) := fun O => (H4.out.box.alloc O).c2
          have hx2' := hx2 (.cells #[.int .i64 0, .int .i64 0, .bool false] 47)
          clear r5 bx5 h5 b5 k5 hwn s5 hx2
          go_upto_region 11 with (at_builtin; refine wpList_append_ty rfl _ _ 26 26 rfl _ _ _ rfl rfl (R5.out _) ?_)
          clear x0 x1 x2 n0 n1 n2 e2 hx2'
          generalize w5.setCell ⟨w.heap.size, 2, none⟩ (.slice a5 (k + 1) c5) = w6 at *
          have x0 := H5a.out.box.c0
          have x1 := H5a.out.box.c1
          have x2 := H5a.out.box.c2
          obtain ⟨gc, eza, hLc, hFc, cb, hset⟩ := H5a.out.cell (k := k) (Nat.lt_succ_self k)
          subst eza
          obtain ⟨c0, c1, c2, g0, g1, g2⟩ := cb.cells (Nat.lt_succ_self k)
          have upE : Hid (up (up QE k cel0) k ⟨QT, ws.length, true⟩ = up QE k ⟨QT, ws.length, true⟩) := up_up _ _ _ _
          have hwin := set3_win w6 gc k (.int .i64 QT) (.int .i64 (ws.length : Int)) (.bool true)
          have H5 : Hid (HB L F w.heap.size (((w6.setCell ⟨gc, k * 3, none⟩ (.int .i64 QT)).setCell ⟨gc, k * 3 + 1, none⟩ (.int .i64 (ws.length : Int))).setCell ⟨gc, k * 3 + 2, none⟩ (.bool true)) (.slice ya QW.length yc) (.slice (some ⟨gc, 0, none⟩) (k + 1) c5) QW QT (k + 1) (up (up QE k cel0) k ⟨QT, ws.length, true⟩)) := hset ⟨QT, ws.length, true⟩
          have P5 : Hid (Piece P1 P2 (((w6.setCell ⟨gc, k * 3, none⟩ (.int .i64 QT)).setCell ⟨gc, k * 3 + 1, none⟩ (.int .i64 (ws.length : Int))).setCell ⟨gc, k * 3 + 2, none⟩ (.bool true)) (.slice pa ws.length pc) ws) := P5a.out.stay fun q h1 h2 => hwin.block q (H5a.out.free q (FP.out q h1 h2)).1 (by have := hFc q (FP.out q h1 h2); omega)
          have Y5 : Hid (Box3 (((w6.setCell ⟨gc, k * 3, none⟩ (.int .i64 QT)).setCell ⟨gc, k * 3 + 1, none⟩ (.int .i64 (ws.length : Int))).setCell ⟨gc, k * 3 + 2, none⟩ (.bool true)) (w.heap.size + 1 + 1) (.slice none 0 0) (.int .i64 0) (.slice none 0 0) 28) := Y5a.out.win hwin (by have := hFc _ FR.out; omega)
          have B5 : Hid (WW L C w (((w6.setCell ⟨gc, k * 3, none⟩ (.int .i64 QT)).setCell ⟨gc, k * 3 + 1, none⟩ (.int .i64 (ws.length : Int))).setCell ⟨gc, k * 3 + 2, none⟩ (.bool true))) := B5a.out.win hwin HL.out hLc (free_or hFc FC.out)
          clear hset hwin cb hFc
          rw [upE.out] at H5
          have kl : (k : Int) < ((k + 1 : Nat) : Int) := by omega
          go_upto_region 12 with fail
          go_wp2_with fail
          clear c0 c1 c2 g0 g1 g2 x0 x1 x2
          generalize ((w6.setCell ⟨gc, k * 3, none⟩ (.int .i64 QT)).setCell ⟨gc, k * 3 + 1, none⟩ (.int .i64 (ws.length : Int))).setCell ⟨gc, k * 3 + 2, none⟩ (.bool true) = w7 at *
          have hT : ((QT.toNat : Nat) : Int) = QT := by omega
          generalize QT.toNat = T at *
          subst hT
          have hwl : ws.length ≤ 1000001 := LW.out
          have x1 := H5.out.box.c1
          go_loopw [9] (fun i w' => ∃ j : Nat, j ≤ ws.length ∧ i = .int .i64 (j : Int) ∧ (HB L F w.heap.size w' (.slice ya QW.length yc) (.slice (some ⟨gc, 0, none⟩) (k + 1) c5) (pst QW T ws j) (T : Int) (k + 1) (up QE k ⟨(T : Int), ws.length, true⟩) ∧ Piece P1 P2 w' (.slice pa ws.length pc) ws ∧ Box3 w' (w.heap.size + 1 + 1) (.slice none 0 0) (.int .i64 0) (.slice none 0 0) 28) ∧ WW L C w w') (fun i _ => ws.length - (intOf i).toNat)
          case atStart => exact ⟨0, by omega, rfl, ⟨H5.out, P5.out, Y5.out⟩, B5.out⟩
          case round =>
            obtain ⟨j, hj, rfl, ⟨h6, p6, y6⟩, b6⟩ := hrel
            have H6 : Hid (HB L F w.heap.size wr (.slice ya QW.length yc) (.slice (some ⟨gc, 0, none⟩) (k + 1) c5) (pst QW T ws j) (T : Int) (k + 1) (up QE k ⟨(T : Int), ws.length, true⟩)) := h6
            have P6 : Hid (Piece P1 P2 wr (.slice pa ws.length pc) ws) := p6
            have Y6 : Hid (Box3 wr (w.heap.size + 1 + 1) (.slice none 0 0) (.int .i64 0) (.slice none 0 0) 28) := y6
            have B6 : Hid (WW L C w wr) := b6
            clear h6 p6 y6 b6 H5 P5 Y5 B5 x1
            by_cases hjl : (j : Int) < (ws.length : Int)
            · have LJ : j < ws.length := by omega
              have h7 : HB L F w.heap.size wr (.slice ya (pst QW T ws j).length yc) (.slice (some ⟨gc, 0, none⟩) (k + 1) c5) (pst QW T ws j) (T : Int) (k + 1) (up QE k ⟨(T : Int), ws.length, true⟩) := by rw [pst_len]; exact H6.out
              obtain ⟨gw, off, exa, hLg, hFg, cw, fw, hset⟩ := h7.word (k := T + j) (by rw [pst_len]; omega)
              obtain ⟨pa', pc', epa, hpi⟩ := P6.out.ints
              cases epa
              obtain ⟨b1, o1, epa, _, cj⟩ := hpi.at LJ
              have y0 := H6.out.box.c0
              have y1 := H6.out.box.c1
              have hw1 : IntKind.i64.wrap ((T : Int) + (j : Int)) = (T : Int) + (j : Int) := by rw [IntKind.wrap_i64]; omega
              have hn0 : (0 : Int) ≤ (T : Int) + (j : Int) := by omega
              have hn1 : (T : Int) + (j : Int) < (QW.length : Int) := by omega
              have hn2 : ((T : Int) + (j : Int)).toNat = T + j := by omega
              have hwin := win_setCell wr gw (off + (T + j)) (.int .i64 (ws.getD j 0))
              have H8 : Hid (HB L F w.heap.size (wr.setCell ⟨gw, off + (T + j), none⟩ (.int .i64 (ws.getD j 0))) (.slice ya QW.length yc) (.slice (some ⟨gc, 0, none⟩) (k + 1) c5) (pst QW T ws (j + 1)) (T : Int) (k + 1) (up QE k ⟨(T : Int), ws.length, true⟩)) := by
                have := hset (ws.getD j 0)
                rw [pst_len] at this
                exact this
              have P8 : Hid (Piece P1 P2 (wr.setCell ⟨gw, off + (T + j), none⟩ (.int .i64 (ws.getD j 0))) (.slice pa ws.length pc) ws) := P6.out.stay fun k h1 h2 => hwin.block k (H6.out.free k (FP.out k h1 h2)).1 (by have := hFg k (FP.out k h1 h2); omega)
              have Y8 : Hid (Box3 (wr.setCell ⟨gw, off + (T + j), none⟩ (.int .i64 (ws.getD j 0))) (w.heap.size + 1 + 1) (.slice none 0 0) (.int .i64 0) (.slice none 0 0) 28) := Y6.out.other (hFg _ FR.out) _
              have B8 : Hid (WW L C w (wr.setCell ⟨gw, off + (T + j), none⟩ (.int .i64 (ws.getD j 0)))) := B6.out.win hwin HL.out hLg (free_or hFg FC.out)
              subst exa
              subst epa
              have a0 := H8.out.box.c0
              have a1 := H8.out.box.c1
              have a2 : (wr.setCell ⟨gw, off + (T + j), none⟩ (.int .i64 (ws.getD j 0))).cell? ⟨b1, o1 + j, none⟩ = some (.int .i64 (ws.getD j 0)) := by
                obtain ⟨pa', pc', e, hpi8⟩ := P8.out.ints
                cases e
                obtain ⟨b', o', e, _, c8⟩ := hpi8.at LJ
                cases e
                exact c8
              generalize ws.getD j 0 = wj at *
              clear hset hwin h7 hpi hFg
              go_wp2_with fail
              go_region_held3 (fun w' => w'.cell? ⟨w.heap.size, 0, none⟩ = some (.slice (some ⟨gw, off, none⟩) QW.length yc) ∧ w'.cell? ⟨w.heap.size, 1, none⟩ = some (.int .i64 (T : Int)) ∧ w'.cell? ⟨b1, o1 + j, none⟩ = some (.int .i64 wj))
                (first | exact ⟨y0, y1, cj⟩ | exact ⟨a0, a1, a2⟩)
                (fail)
              all_goals
                go_wp2
                go_roundw
                case rel => exact ⟨j + 1, by omega, by go_num, ⟨H8.out, P8.out, Y8.out⟩, B8.out.drew⟩
                case measure => simp [intOf]; omega
            · obtain rfl : j = ws.length := by omega
              have y1 := H6.out.box.c1
              have y0 := H6.out.box.c0
              have y2 := H6.out.box.c2
              have g1 := H6.out.box.free 1
              have hw1 : IntKind.i64.wrap ((T : Int) + (ws.length : Int)) = (T : Int) + (ws.length : Int) := by rw [IntKind.wrap_i64]; omega
              have H9 : Hid (HB L F w.heap.size (wr.setCell ⟨w.heap.size, 1, none⟩ (.int .i64 ((T : Int) + (ws.length : Int)))) (.slice ya QW.length yc) (.slice (some ⟨gc, 0, none⟩) (k + 1) c5) (pst QW T ws ws.length) ((T : Int) + (ws.length : Int)) (k + 1) (up QE k ⟨(T : Int), ws.length, true⟩)) := H6.out.top _
              have Y9 : Hid (Box3 (wr.setCell ⟨w.heap.size, 1, none⟩ (.int .i64 ((T : Int) + (ws.length : Int)))) (w.heap.size + 1 + 1) (.slice none 0 0) (.int .i64 0) (.slice none 0 0) 28) := Y6.out.other (by omega) _
              have hl0 := HL.out
              have B9 : Hid (WW L C w (wr.setCell ⟨w.heap.size, 1, none⟩ (.int .i64 ((T : Int) + (ws.length : Int))))) := B6.out.win (win_setCell _ _ _ _) hl0 hl0 (.inr (Nat.le_refl _))
              go_upto_region 17 with fail
              clear y0 y1 y2 g1
              generalize wr.setCell ⟨w.heap.size, 1, none⟩ (.int .i64 ((T : Int) + (ws.length : Int))) = w9 at *
              have y0 := H9.out.box.c0
              have y1 := H9.out.box.c1
              have y2 := H9.out.box.c2
              have r0 := Y9.out.c0
              have r1 := Y9.out.c1
              have r2 := Y9.out.c2
              have f0 := Y9.out.free 0
              have f1 := Y9.out.free 1
              have f2 := Y9.out.free 2
              go_wp2
              clear y0 y1 y2 r0 r1 r2 f0 f1 f2
              have wzw : Win (w.heap.size + 1 + 1) (w.heap.size + 1 + 1 + 1) w9 (((w9.setCell ⟨w.heap.size + 1 + 1, 0, none⟩ (.slice ya QW.length yc)).setCell ⟨w.heap.size + 1 + 1, 1, none⟩ (.int .i64 ((T : Int) + (ws.length : Int)))).setCell ⟨w.heap.size + 1 + 1, 2, none⟩ (.slice (some ⟨gc, 0, none⟩) (k + 1) c5)) := ((win_setCell _ _ _ _).trans (win_setCell _ _ _ _)).trans (win_setCell _ _ _ _)
              generalize hZ : ((w9.setCell ⟨w.heap.size + 1 + 1, 0, none⟩ (.slice ya QW.length yc)).setCell ⟨w.heap.size + 1 + 1, 1, none⟩ (.int .i64 ((T : Int) + (ws.length : Int)))).setCell ⟨w.heap.size + 1 + 1, 2, none⟩ (.slice (some ⟨gc, 0, none⟩) (k + 1) c5) = wz at *
              have YZ : Box3 wz (w.heap.size + 1 + 1) (.slice ya QW.length yc) (.int .i64 ((T : Int) + (ws.length : Int))) (.slice (some ⟨gc, 0, none⟩) (k + 1) c5) 28 := by rw [← hZ]; exact ((Y9.out.set0 _).set1 _).set2 _
              have BZ : WW L C w wz := B9.out.win wzw hl0 (by omega) (.inr (by omega))
              have HZ := (H9.out.other FR.out wzw).hxe.less (P' := fun k => C ≤ k ∧ k < w.heap.size) fun k hk => FC.out k hk.1 hk.2
              have v0 := YZ.c0
              have v1 := YZ.c1
              have v2 := YZ.c2
              refine bodyPost_ret (v := .tuple #[.agg #[.slice ya QW.length yc, .int .i64 ((T : Int) + (ws.length : Int)), (.slice (some ⟨gc, 0, none⟩) (k + 1) c5)], .int .i64 (k : Int), .bool true]) (by simp [results, Try.results55, go_sem, v0, v1, v2]) rfl ?_
              refine ⟨_, _, _, _, _, _, _, by rw [QV.out, HH.out]; rfl, fun _ => ?_, BZ⟩
              rw [PWd.out, PT.out, PN.out, PE.out, HH.out, if_pos rfl]
              exact HZ
end Go.Proofs.Ytmmjidhpmbcoiaa
namespace Go.Proofs.Ytmmjidhpmbcoiaa
open Go.RowKit
set_option linter.unusedVariables false
set_option linter.unusedSimpArgs false
section
variable (W : List Int) (t : Int) (n : Nat) (E : Nat → Cel) (s d : List Int)
/-- What HeapPut answers. -/
noncomputable def outB : Bool := hOkB W.length t n E && (arrOk s d && putB W t n E (wsA s d))
noncomputable def outI : Int := if outB W t n E s d = true then (putH W t n E (wsA s d) : Int) else -1
noncomputable def outW : List Int := if outB W t n E s d = true then putW W t n E (wsA s d) else if hOkB W.length t n E = true then W else []
noncomputable def outT : Int := if outB W t n E s d = true then putT W t n E (wsA s d) else if hOkB W.length t n E = true then t else 0
noncomputable def outN : Nat := if outB W t n E s d = true then putN W t n E (wsA s d) else if hOkB W.length t n E = true then n else 0
noncomputable def outE : Nat → Cel := if outB W t n E s d = true then putE W t n E (wsA s d) else E
end
theorem CapH.keep {w w' : World} {v : Value} {n : Nat} (h : CapH w v n) (hb : Below w.heap.size w w') : CapH w' v n := by
  obtain ⟨x, y, a, c, e, h⟩ := h
  exact ⟨x, y, a, c, e, h.keep hb⟩
theorem lt_allocD (w : World) (O : Obj) : w.heap.size < (World.drew (w.alloc O)).heap.size := by simp
theorem box3_below {w w1 w2 : World} {g L : Nat} {x y z : Value} {ty : TypeId} (h : Box3 w g x y z ty) (hb : Below w.heap.size w w1) (hL : Below L w1 w2) (hg : g < L) (hl : L ≤ w.heap.size) : Box3 w2 g x y z ty := by
  have h1 := h.keep hb
  unfold Box3 at *
  rw [hL.block g hg]; exact h1
theorem box3_block {w w2 : World} {g : Nat} {x y z : Value} {ty : TypeId} (h : Box3 w g x y z ty) (hb : w2.heap[g]? = w.heap[g]?) : Box3 w2 g x y z ty := by
  unfold Box3 at *; rw [hb]; exact h
theorem arrOk_rank3 {s d : List Int} (h : arrOk s d = true) : s.length ≤ 3 := by
  have := (sizeV_ok (arrOk_shape h)).1
  omega
theorem ex_eq {B C : Nat} {w : World} {v : Value} {W : List Int} {t : Int} {n : Nat} {E : Nat → Cel} (h : HP B C w v W t n E) : ∃ L, L = B ∧ HP L C w v W t n E := ⟨B, rfl, h⟩
theorem out_bad {W : List Int} {t : Int} {n : Nat} {E : Nat → Cel} {s d : List Int} (h : hOkB W.length t n E = false) : outB W t n E s d = false ∧ outI W t n E s d = -1 ∧ outW W t n E s d = [] ∧ outT W t n E s d = 0 ∧ outN W t n E s d = 0 ∧ outE W t n E s d = E := by
  have e : outB W t n E s d = false := by unfold outB; rw [h]; rfl
  unfold outI outW outT outN outE
  simp [e, h]
theorem out_same {W : List Int} {t : Int} {n : Nat} {E : Nat → Cel} {s d : List Int} (h : hOkB W.length t n E = true) (h2 : (arrOk s d && putB W t n E (wsA s d)) = false) : outB W t n E s d = false ∧ outI W t n E s d = -1 ∧ outW W t n E s d = W ∧ outT W t n E s d = t ∧ outN W t n E s d = n ∧ outE W t n E s d = E := by
  have e : outB W t n E s d = false := by unfold outB; rw [h, h2]; rfl
  unfold outI outW outT outN outE
  simp [e, h]
theorem out_put {W : List Int} {t : Int} {n : Nat} {E : Nat → Cel} {s d : List Int} (h : hOkB W.length t n E = true) (h2 : arrOk s d = true) (h3 : putB W t n E (wsA s d) = true) : outB W t n E s d = true ∧ outI W t n E s d = putH W t n E (wsA s d) ∧ outW W t n E s d = putW W t n E (wsA s d) ∧ outT W t n E s d = putT W t n E (wsA s d) ∧ outN W t n E s d = putN W t n E (wsA s d) ∧ outE W t n E s d = putE W t n E (wsA s d) := by
  have e : outB W t n E s d = true := by unfold outB; rw [h, h2, h3]; rfl
  unfold outI outW outT outN outE
  simp [e]
set_option maxRecDepth 20000 in
set_option maxHeartbeats 16000000 in
/-- The specification's HeapPut. -/
theorem heapPut_spec {w : World} {v u : Value} {W : List Int} {t : Int} {n : Nat} {E : Nat → Cel} {s d : List Int} (h : HI w v W t n E) (he : (∀ i, in64 (E i).f ∧ in64 (E i).l) ∧ in64 t) (hW : W.length ≤ 1048576) (hn : n ≤ 1048576) (ha : ArrI w u s d) (hd : d.length ≤ 1048576) :
    Calls Try.prog 18 #[v, u] w fun e w' => ∃ v', e = .returned (.tuple #[v', .int .i64 (outI W t n E s d), .bool (outB W t n E s d)]) ∧ HX w.heap.size w'.heap.size w' v' (outW W t n E s d) (outT W t n E s d) (outN W t n E s d) (outE W t n E s d) ∧ Below w.heap.size w w' := by
  have CK : Hid (∀ W', Below w.heap.size w W' → Calls Try.prog 25 #[v] W' fun e w' => e = .returned (.bool (hOkB W.length t n E)) ∧ Below W'.heap.size W' w') := fun W' hb => heapOk_spec (h.keep hb) he hW hn
  have CA : Hid (∀ W', Below w.heap.size w W' → Calls Try.prog 53 #[u] W' fun e w' => e = .returned (.bool (arrOk s d)) ∧ Below W'.heap.size W' w') := fun W' hb => arrOk_spec (ha.keep hb) hd
  have CC : Hid (∀ W', Below w.heap.size w W' → Calls Try.prog 54 #[v] W' fun e w' => ∃ v', e = .returned v' ∧ HP W'.heap.size w'.heap.size w' v' W t n E ∧ CapH w' v' n ∧ Below W'.heap.size W' w') := fun W' hb => heapCopy_spec2 (h.keep hb) hW hn
  have AI : Hid (ArrI w u s d) := ha
  obtain ⟨wa, wc_, ca, cc, rfl, h1, h2, h3, h4⟩ := h
  obtain ⟨sa, sc, da, dc, rfl, a1, a2, a3, a4⟩ := ha
  clear h1 h2 h3 h4 he a1 a2 a3 a4
  go_enter Try.func18, Try.ntmps18
  go_wp2_with fail
  generalize hV : ((w.alloc (.cells #[.slice wa W.length wc_, .int .i64 t, .slice ca n cc] 28)).alloc (.cells #[.slice sa s.length sc, .slice da d.length dc] 32)).alloc (.cells #[.slice none 0 0, .int .i64 0, .slice none 0 0] 28) = w1
  have B1 : Hid (Below w.heap.size w w1) := by rw [← hV]; exact bAlloc (bAlloc (bAlloc (Below.refl _ _) _) _) _
  have X1 : Hid (Box3 w1 w.heap.size (.slice wa W.length wc_) (.int .i64 t) (.slice ca n cc) 28) := by rw [← hV]; exact ((box3_new _ _ _ _ _).alloc _).alloc _
  have A1 : Hid (Box w1 (w.heap.size + 1) (.slice sa s.length sc) (.slice da d.length dc) 32) := by
    have := box_new (w.alloc (.cells #[.slice wa W.length wc_, .int .i64 t, .slice ca n cc] 28)) (.slice sa s.length sc) (.slice da d.length dc) 32
    show Box _ _ _ _ _
    rw [← hV]
    exact (Box.keep (by simpa using this) (bAlloc (Below.refl _ _) _))
  have Y1 : Hid (Box3 w1 (w.heap.size + 1 + 1) (.slice none 0 0) (.int .i64 0) (.slice none 0 0) 28) := by
    have := box3_new ((w.alloc (.cells #[.slice wa W.length wc_, .int .i64 t, .slice ca n cc] 28)).alloc (.cells #[.slice sa s.length sc, .slice da d.length dc] 32)) (.slice none 0 0) (.int .i64 0) (.slice none 0 0) 28
    show Box3 _ _ _ _ _ _
    rw [← hV]; simpa using this
  clear hV
  refine (CK.out _ B1.out).mono ?_
  rintro r w2 ⟨rfl, hb⟩
  have B2 : Hid (Below w.heap.size w w2) := bTrans B1.out hb
  have X2 : Hid (Box3 w2 w.heap.size (.slice wa W.length wc_) (.int .i64 t) (.slice ca n cc) 28) := X1.out.keep hb
  have A2 : Hid (Box w2 (w.heap.size + 1) (.slice sa s.length sc) (.slice da d.length dc) 32) := A1.out.keep hb
  have Y2 : Hid (Box3 w2 (w.heap.size + 1 + 1) (.slice none 0 0) (.int .i64 0) (.slice none 0 0) 28) := Y1.out.keep hb
  clear hb B1 X1 A1 Y1
  by_cases kk : hOkB W.length t n E = true
  case neg =>
    have e1 : hOkB W.length t n E = false := by simpa using kk
    rw [e1]
    obtain ⟨o1, o2, o3, o4, o5, o6⟩ := out_bad (s := s) (d := d) e1
    have r0 := Y2.out.c0
    have r1 := Y2.out.c1
    have r2 := Y2.out.c2
    have f0 := Y2.out.free 0
    have f1 := Y2.out.free 1
    have f2 := Y2.out.free 2
    go_wp2
    clear r0 r1 r2 f0 f1 f2
    generalize hZ : ((w2.setCell ⟨w.heap.size + 1 + 1, 0, none⟩ (.slice none 0 0)).setCell ⟨w.heap.size + 1 + 1, 1, none⟩ (.int .i64 0)).setCell ⟨w.heap.size + 1 + 1, 2, none⟩ (.slice none 0 0) = wz
    have YZ : Box3 wz (w.heap.size + 1 + 1) (.slice none 0 0) (.int .i64 0) (.slice none 0 0) 28 := by rw [← hZ]; exact ((Y2.out.set0 _).set1 _).set2 _
    have WZ : Win (w.heap.size + 1 + 1) (w.heap.size + 1 + 1 + 1) w2 wz := by rw [← hZ]; exact ((win_setCell _ _ _ _).trans (win_setCell _ _ _ _)).trans (win_setCell _ _ _ _)
    have BZ : Below w.heap.size w wz := by rw [← hZ]; exact below_setCell (below_setCell (below_setCell B2.out (by omega) _ _) (by omega) _ _) (by omega) _ _
    have v0 := YZ.c0
    have v1 := YZ.c1
    have v2 := YZ.c2
    refine bodyPost_ret (v := .tuple #[.agg #[(.slice none 0 0), .int .i64 0, (.slice none 0 0)], .int .i64 (-1), .bool false]) (by simp [results, Try.results18, go_sem, v0, v1, v2]) rfl ?_
    rw [o1, o2, o3, o4, o5, o6]
    exact ⟨_, rfl, (HP.zero _ _ BZ.size _ _).hx, BZ⟩
  case pos =>
  have y0 := A2.out.c0
  have y1 := A2.out.c1
  rw [kk]
  go_wp2_with fail
  refine (CA.out _ B2.out).mono ?_
  rintro r w3 ⟨rfl, hb⟩
  have B3 : Hid (Below w.heap.size w w3) := bTrans B2.out hb
  have X3 : Hid (Box3 w3 w.heap.size (.slice wa W.length wc_) (.int .i64 t) (.slice ca n cc) 28) := X2.out.keep hb
  have A3 : Hid (Box w3 (w.heap.size + 1) (.slice sa s.length sc) (.slice da d.length dc) 32) := A2.out.keep hb
  have Y3 : Hid (Box3 w3 (w.heap.size + 1 + 1) (.slice none 0 0) (.int .i64 0) (.slice none 0 0) 28) := Y2.out.keep hb
  have L3 := Y3.out.lt
  have S23 := B3.out.size
  clear hb B2 X2 A2 Y2 y0 y1
  have x0 := X3.out.c0
  have x1 := X3.out.c1
  have x2 := X3.out.c2
  by_cases aa : arrOk s d = true
  case neg =>
    have e1 : arrOk s d = false := by simpa using aa
    obtain ⟨o1, o2, o3, o4, o5, o6⟩ := out_same (s := s) (d := d) kk (by rw [e1]; rfl)
    rw [e1]
    go_wp2_with fail
    refine (CC.out _ B3.out).mono ?_
    rintro r w4 ⟨v', rfl, hP, _, hb⟩
    have P4 : Hid (HX w3.heap.size w4.heap.size w4 v' W t n E) := hP.hx
    have B4 : Hid (Below w.heap.size w w4) := bTrans B3.out hb
    have Y4 : Hid (Box3 w4 (w.heap.size + 1 + 1) (.slice none 0 0) (.int .i64 0) (.slice none 0 0) 28) := Y3.out.keep hb
    clear hb hP x0 x1 x2
    obtain ⟨xa, xc, za, zc, rfl⟩ := P4.out.form
    have r0 := Y4.out.c0
    have r1 := Y4.out.c1
    have r2 := Y4.out.c2
    have f0 := Y4.out.free 0
    have f1 := Y4.out.free 1
    have f2 := Y4.out.free 2
    go_wp2
    clear r0 r1 r2 f0 f1 f2
    generalize hZ : ((w4.setCell ⟨w.heap.size + 1 + 1, 0, none⟩ (.slice xa W.length xc)).setCell ⟨w.heap.size + 1 + 1, 1, none⟩ (.int .i64 t)).setCell ⟨w.heap.size + 1 + 1, 2, none⟩ (.slice za n zc) = wz
    have YZ : Box3 wz (w.heap.size + 1 + 1) (.slice xa W.length xc) (.int .i64 t) (.slice za n zc) 28 := by rw [← hZ]; exact ((Y4.out.set0 _).set1 _).set2 _
    have WZ : Win (w.heap.size + 1 + 1) (w.heap.size + 1 + 1 + 1) w4 wz := by rw [← hZ]; exact ((win_setCell _ _ _ _).trans (win_setCell _ _ _ _)).trans (win_setCell _ _ _ _)
    have BZ : Below w.heap.size w wz := by rw [← hZ]; exact below_setCell (below_setCell (below_setCell B4.out (by omega) _ _) (by omega) _ _) (by omega) _ _
    have v0 := YZ.c0
    have v1 := YZ.c1
    have v2 := YZ.c2
    refine bodyPost_ret (v := .tuple #[.agg #[(.slice xa W.length xc), .int .i64 t, (.slice za n zc)], .int .i64 (-1), .bool false]) (by simp [results, Try.results18, go_sem, v0, v1, v2]) rfl ?_
    rw [o1, o2, o3, o4, o5, o6]
    exact ⟨_, rfl, (P4.out.win WZ (.inr (by omega))).mono (by omega) WZ.size, BZ⟩
  case pos =>
  have y0 := A3.out.c0
  have y1 := A3.out.c1
  have hlen := arrOk_len aa
  have hrank : s.length ≤ 3 := arrOk_rank3 aa
  rw [aa]
  obtain ⟨PI, hPI⟩ : ∃ PI : Int, PI = if putB W t n E (wsA s d) = true then (putH W t n E (wsA s d) : Int) else -1 := ⟨_, rfl⟩
  have HPI : Hid (PI = if putB W t n E (wsA s d) = true then (putH W t n E (wsA s d) : Int) else -1) := hPI
  clear hPI
  go_wp2_with fail
  go_cut [7, 8, 9] from 27 (fun p i b w' => ∃ (g7 : Nat) (xa : Option Addr) (xm xc : Nat) (t' : Int) (za : Option Addr) (zn zc : Nat), p = .pointer (some ⟨g7, 0, none⟩) ∧ i = .int .i64 PI ∧ b = .bool (putB W t n E (wsA s d)) ∧ Box3 w' g7 (.slice xa xm xc) (.int .i64 t') (.slice za zn zc) 28 ∧ (putB W t n E (wsA s d) = true → HX w3.heap.size w'.heap.size w' (.agg #[.slice xa xm xc, .int .i64 t', .slice za zn zc]) (putW W t n E (wsA s d)) (putT W t n E (wsA s d)) (putN W t n E (wsA s d)) (putE W t n E (wsA s d))) ∧ Below w3.heap.size w3 w')
  case first =>
    have KB : Hid (∀ W' : World, Below w3.heap.size w3 W' → W'.cell? ⟨w.heap.size, 0, none⟩ = some (.slice wa W.length wc_) ∧ W'.cell? ⟨w.heap.size, 1, none⟩ = some (.int .i64 t) ∧ W'.cell? ⟨w.heap.size, 2, none⟩ = some (.slice ca n cc) ∧ W'.cell? ⟨w.heap.size + 1, 0, none⟩ = some (.slice sa s.length sc) ∧ W'.cell? ⟨w.heap.size + 1, 1, none⟩ = some (.slice da d.length dc)) := fun W' hb => ⟨(X3.out.keep hb).c0, (X3.out.keep hb).c1, (X3.out.keep hb).c2, (A3.out.keep hb).c0, (A3.out.keep hb).c1⟩
    have nu0 := World.new_ne w3 ⟨w.heap.size, 0, none⟩ x0
    have nu1 := World.new_ne w3 ⟨w.heap.size + 1, 0, none⟩ y0
    go_region_held3 (fun w' => w'.cell? ⟨w.heap.size, 0, none⟩ = some (.slice wa W.length wc_) ∧ w'.cell? ⟨w.heap.size, 1, none⟩ = some (.int .i64 t) ∧ w'.cell? ⟨w.heap.size, 2, none⟩ = some (.slice ca n cc) ∧ w'.cell? ⟨w.heap.size + 1, 0, none⟩ = some (.slice sa s.length sc) ∧ w'.cell? ⟨w.heap.size + 1, 1, none⟩ = some (.slice da d.length dc))
      (first | (refine KB.out _ ?_; (repeat first | exact Below.refl _ _ | exact BY.out | exact BX.out | refine bAlloc ?_ _ | refine Below.drew ?_ | refine below_setCell ?_ (by omega) _ _); done) | go_keep)
      (first
        | (go_at_call 54; refine (CC.out _ (bTrans B3.out (by repeat first | exact Below.refl _ _ | exact (Below.refl _ _).drew | refine bAlloc ?_ _ | refine Below.drew ?_))).mono ?_; rintro r wx ⟨vx, rfl, hPx, hcx, hbx⟩; obtain ⟨ax, ay, az, aw, rfl⟩ := hPx.form; have BX : Hid (Below w3.heap.size w3 wx) := bTrans (by repeat first | exact Below.refl _ _ | exact (Below.refl _ _).drew | refine bAlloc ?_ _ | refine Below.drew ?_) hbx; obtain ⟨Lx, hLx⟩ := ex_eq hPx; have hl1 : w3.heap.size ≤ Lx := Nat.le_trans (sizeBelowH (w := w3) (by repeat first | exact Below.refl _ _ | exact (Below.refl _ _).drew | refine bAlloc ?_ _ | refine Below.drew ?_)) (Nat.le_of_eq hLx.1.symm); have hl2 : Lx ≤ wx.heap.size := Nat.le_trans (Nat.le_of_eq hLx.1) hbx.size; have PX : Hid (HX Lx wx.heap.size wx (.agg #[.slice ax W.length ay, .int .i64 t, .slice az n aw]) W t n E) := hLx.2.hx; have CX : Hid (CapH wx (.agg #[.slice ax W.length ay, .int .i64 t, .slice az n aw]) n) := hcx; (try have bq : Hid (Box3 wx w3.heap.size (.slice none 0 0) (.int .i64 0) (.slice none 0 0) 28 ∧ w3.heap.size < Lx) := ⟨Box3.keep (w := World.drew (World.alloc w3 (.cells #[.slice none 0 0, .int .i64 0, .slice none 0 0] 28))) (box3_new w3 _ _ _ _) hbx, Nat.lt_of_lt_of_eq (lt_allocD w3 _) hLx.1.symm⟩); clear hPx hcx hbx hLx)
        | (go_at_call 55; refine (put_spec (L := Lx) (C := wx.heap.size) (PX.out.keep (by repeat first | exact Below.refl _ _ | exact (Below.refl _ _).drew | refine bAlloc ?_ _ | refine Below.drew ?_)) (sizeBelowH (w := wx) (by repeat first | exact Below.refl _ _ | exact (Below.refl _ _).drew | refine bAlloc ?_ _ | refine Below.drew ?_)) (CX.out.keep (by repeat first | exact Below.refl _ _ | exact (Below.refl _ _).drew | refine bAlloc ?_ _ | refine Below.drew ?_)) kk (Nat.le_trans hl2 (sizeBelowH (w := wx) (by repeat first | exact Below.refl _ _ | exact (Below.refl _ _).drew | refine bAlloc ?_ _ | refine Below.drew ?_))) (AI.out.keep (bTrans B3.out (bTrans BX.out (by repeat first | exact Below.refl _ _ | exact (Below.refl _ _).drew | refine bAlloc ?_ _ | refine Below.drew ?_)))) (by omega)).mono ?_; rintro r wy ⟨ya, ym, yc, ty, ua, um, uc, rfl, hXY, hWW⟩; rw [← HPI.out]; have BY : Hid (Below w3.heap.size w3 wy) := (bTrans BX.out (show Below wx.heap.size wx _ from (by repeat first | exact Below.refl _ _ | exact (Below.refl _ _).drew | refine bAlloc ?_ _ | refine Below.drew ?_))).trans (hWW.1.mono hl1); have GY : Hid (putB W t n E (wsA s d) = true → HXE _ Lx wy.heap.size wy (.agg #[.slice ya ym yc, .int .i64 ty, .slice ua um uc]) (putW W t n E (wsA s d)) (putT W t n E (wsA s d)) (putN W t n E (wsA s d)) (putE W t n E (wsA s d))) := hXY; (try have bqa : Hid (Box3 wy w3.heap.size (.slice none 0 0) (.int .i64 0) (.slice none 0 0) 28 ∧ w3.heap.size < Lx) := ⟨box3_below bq.out.1 (show Below wx.heap.size wx _ from (by repeat first | exact Below.refl _ _ | exact (Below.refl _ _).drew | refine bAlloc ?_ _ | refine Below.drew ?_)) hWW.1 bq.out.2 hl2, bq.out.2⟩); (try have bqb : Hid (Box3 wy wx.heap.size (.slice none 0 0) (.int .i64 0) (.slice none 0 0) 28 ∧ (wx.heap.size ≤ wx.heap.size ∧ wx.heap.size < (World.drew (World.alloc wx (.cells #[.slice none 0 0, .int .i64 0, .slice none 0 0] 28))).heap.size)) := ⟨box3_block (w := World.drew (World.alloc wx (.cells #[.slice none 0 0, .int .i64 0, .slice none 0 0] 28))) (box3_new wx _ _ _ _) (hWW.2 wx.heap.size (Nat.le_refl _) (lt_allocD wx _)), Nat.le_refl _, lt_allocD wx _⟩); (try have m0 := bqa.out.1.c0); (try have m1 := bqa.out.1.c1); (try have m2 := bqa.out.1.c2); (try have f0 := bqa.out.1.free 0); (try have f1 := bqa.out.1.free 1); (try have f2 := bqa.out.1.free 2); (try have m0 := bqb.out.1.c0); (try have m1 := bqb.out.1.c1); (try have m2 := bqb.out.1.c2); (try have f0 := bqb.out.1.free 0); (try have f1 := bqb.out.1.free 1); (try have f2 := bqb.out.1.free 2); clear hXY hWW))
    all_goals
      go_wp2_with fail
      go_meet
      case rel =>
        first
          | exact ⟨wy.heap.size, _, _, _, _, _, _, _, rfl, rfl, rfl, box3_new wy _ _ _ _, fun h => ((GY.out h).hx.keep (bAlloc (Below.refl _ _) _)).mono hl1 (by simp), bAlloc BY.out _⟩
          | exact ⟨w3.heap.size, _, _, _, _, _, _, _, rfl, rfl, rfl, ((bqa.out.1.set0 _).set1 _).set2 _, fun h => (((GY.out h).win (.inr bqa.out.2) (((win_setCell _ _ _ _).trans (win_setCell _ _ _ _)).trans (win_setCell _ _ _ _))).hx).mono hl1 (by simp [size_setCell]), below_setCell (below_setCell (below_setCell BY.out (Nat.le_refl _) _ _) (Nat.le_refl _) _ _) (Nat.le_refl _) _ _⟩
          | exact ⟨wx.heap.size, _, _, _, _, _, _, _, rfl, rfl, rfl, ((bqb.out.1.set0 _).set1 _).set2 _, fun h => (((GY.out h).win (.inl bqb.out.2) (((win_setCell _ _ _ _).trans (win_setCell _ _ _ _)).trans (win_setCell _ _ _ _))).hx).mono hl1 (by simp [size_setCell]), below_setCell (below_setCell (below_setCell BY.out BX.out.size _ _) BX.out.size _ _) BX.out.size _ _⟩
  case rest =>
    obtain ⟨g7, xa, xm, xc, t', za, zn, zc, rfl, rfl, rfl, hbx, hhx, hbl⟩ := hcut
    have X7 : Hid (Box3 wc g7 (.slice xa xm xc) (.int .i64 t') (.slice za zn zc) 28) := hbx
    have H7 : Hid (putB W t n E (wsA s d) = true → HX w3.heap.size wc.heap.size wc (.agg #[.slice xa xm xc, .int .i64 t', .slice za zn zc]) (putW W t n E (wsA s d)) (putT W t n E (wsA s d)) (putN W t n E (wsA s d)) (putE W t n E (wsA s d))) := hhx
    have B7 : Hid (Below w.heap.size w wc) := bTrans B3.out hbl
    have Y7 : Hid (Box3 wc (w.heap.size + 1 + 1) (.slice none 0 0) (.int .i64 0) (.slice none 0 0) 28) := Y3.out.keep hbl
    have XX7 : Hid (Box3 wc w.heap.size (.slice wa W.length wc_) (.int .i64 t) (.slice ca n cc) 28) := X3.out.keep hbl
    have S7 := hbl.size
    clear hbx hhx hbl x0 x1 x2 y0 y1
    obtain ⟨w7, hwc⟩ : ∃ x, x = wc := ⟨_, rfl⟩
    subst hwc
    by_cases pp : putB W t n E (wsA s d) = true
    · obtain ⟨o1, o2, o3, o4, o5, o6⟩ := out_put kk aa pp
      have HH : Hid (HX w3.heap.size w7.heap.size w7 (.agg #[.slice xa xm xc, .int .i64 t', .slice za zn zc]) (putW W t n E (wsA s d)) (putT W t n E (wsA s d)) (putN W t n E (wsA s d)) (putE W t n E (wsA s d))) := H7.out pp
      have e2 : PI = (putH W t n E (wsA s d) : Int) := by rw [HPI.out, if_pos pp]
      rw [pp, e2]
      have x0 := X7.out.c0
      have x1 := X7.out.c1
      have x2 := X7.out.c2
      have r0 := Y7.out.c0
      have r1 := Y7.out.c1
      have r2 := Y7.out.c2
      have f0 := Y7.out.free 0
      have f1 := Y7.out.free 1
      have f2 := Y7.out.free 2
      go_wp2
      clear r0 r1 r2 f0 f1 f2
      generalize hZ : ((w7.setCell ⟨w.heap.size + 1 + 1, 0, none⟩ (.slice xa xm xc)).setCell ⟨w.heap.size + 1 + 1, 1, none⟩ (.int .i64 t')).setCell ⟨w.heap.size + 1 + 1, 2, none⟩ (.slice za zn zc) = wz
      have YZ : Box3 wz (w.heap.size + 1 + 1) (.slice xa xm xc) (.int .i64 t') (.slice za zn zc) 28 := by rw [← hZ]; exact ((Y7.out.set0 _).set1 _).set2 _
      have WZ : Win (w.heap.size + 1 + 1) (w.heap.size + 1 + 1 + 1) w7 wz := by rw [← hZ]; exact ((win_setCell _ _ _ _).trans (win_setCell _ _ _ _)).trans (win_setCell _ _ _ _)
      have BZ : Below w.heap.size w wz := by rw [← hZ]; exact below_setCell (below_setCell (below_setCell B7.out (by omega) _ _) (by omega) _ _) (by omega) _ _
      have v0 := YZ.c0
      have v1 := YZ.c1
      have v2 := YZ.c2
      refine bodyPost_ret (v := .tuple #[.agg #[(.slice xa xm xc), .int .i64 t', (.slice za zn zc)], .int .i64 (putH W t n E (wsA s d) : Int), .bool true]) (by simp [results, Try.results18, go_sem, v0, v1, v2]) rfl ?_
      rw [o1, o2, o3, o4, o5, o6]
      exact ⟨_, rfl, (HH.out.win WZ (.inr (by omega))).mono (by omega) WZ.size, BZ⟩
    · have e1 : putB W t n E (wsA s d) = false := by simpa using pp
      obtain ⟨o1, o2, o3, o4, o5, o6⟩ := out_same (s := s) (d := d) kk (by rw [e1]; simp)
      rw [e1]
      have x0 := XX7.out.c0
      have x1 := XX7.out.c1
      have x2 := XX7.out.c2
      go_wp2_with fail
      refine (CC.out _ B7.out).mono ?_
      rintro r w8 ⟨v', rfl, hP, _, hb⟩
      have P8 : Hid (HX w7.heap.size w8.heap.size w8 v' W t n E) := hP.hx
      have B8 : Hid (Below w.heap.size w w8) := bTrans B7.out hb
      have Y8 : Hid (Box3 w8 (w.heap.size + 1 + 1) (.slice none 0 0) (.int .i64 0) (.slice none 0 0) 28) := Y7.out.keep hb
      clear hb hP x0 x1 x2
      obtain ⟨xa, xc, za, zc, rfl⟩ := P8.out.form
      have r0 := Y8.out.c0
      have r1 := Y8.out.c1
      have r2 := Y8.out.c2
      have f0 := Y8.out.free 0
      have f1 := Y8.out.free 1
      have f2 := Y8.out.free 2
      go_wp2
      clear r0 r1 r2 f0 f1 f2
      generalize hZ : ((w8.setCell ⟨w.heap.size + 1 + 1, 0, none⟩ (.slice xa W.length xc)).setCell ⟨w.heap.size + 1 + 1, 1, none⟩ (.int .i64 t)).setCell ⟨w.heap.size + 1 + 1, 2, none⟩ (.slice za n zc) = wz
      have YZ : Box3 wz (w.heap.size + 1 + 1) (.slice xa W.length xc) (.int .i64 t) (.slice za n zc) 28 := by rw [← hZ]; exact ((Y8.out.set0 _).set1 _).set2 _
      have WZ : Win (w.heap.size + 1 + 1) (w.heap.size + 1 + 1 + 1) w8 wz := by rw [← hZ]; exact ((win_setCell _ _ _ _).trans (win_setCell _ _ _ _)).trans (win_setCell _ _ _ _)
      have BZ : Below w.heap.size w wz := by rw [← hZ]; exact below_setCell (below_setCell (below_setCell B8.out (by omega) _ _) (by omega) _ _) (by omega) _ _
      have v0 := YZ.c0
      have v1 := YZ.c1
      have v2 := YZ.c2
      refine bodyPost_ret (v := .tuple #[.agg #[(.slice xa W.length xc), .int .i64 t, (.slice za n zc)], .int .i64 (-1), .bool false]) (by simp [results, Try.results18, go_sem, v0, v1, v2]) rfl ?_
      rw [o1, o2, o3, o4, o5, o6]
      exact ⟨_, rfl, (P8.out.win WZ (.inr (by omega))).mono (by omega) WZ.size, BZ⟩
end Go.Proofs.Ytmmjidhpmbcoiaa
namespace Go.Proofs.Ytmmjidhpmbcoiaa
open Go.RowKit
set_option linter.unusedVariables false
set_option linter.unusedSimpArgs false
/-- The array that words are, if they are one. -/
def arrOf (ws : List Int) : Option (List Int × List Int) :=
  if 0 ≤ ws.getD 0 0 ∧ ws.getD 0 0 ≤ (ws.length : Int) - 1 then
    (if arrOk ((ws.drop 1).take (ws.getD 0 0).toNat) (ws.drop (1 + (ws.getD 0 0).toNat)) = true then some ((ws.drop 1).take (ws.getD 0 0).toNat, ws.drop (1 + (ws.getD 0 0).toNat)) else none)
  else none
/-- The array under a handle. -/
noncomputable def gO (W : List Int) (t : Int) (n : Nat) (E : Nat → Cel) (i : Int) : Option (List Int × List Int) := if hOkB W.length t n E = true ∧ liveB n E i = true then arrOf (wds W (E i.toNat)) else none
noncomputable def gS (W : List Int) (t : Int) (n : Nat) (E : Nat → Cel) (i : Int) : List Int := ((gO W t n E i).getD ([], [])).1
noncomputable def gD (W : List Int) (t : Int) (n : Nat) (E : Nat → Cel) (i : Int) : List Int := ((gO W t n E i).getD ([], [])).2
noncomputable def gB (W : List Int) (t : Int) (n : Nat) (E : Nat → Cel) (i : Int) : Bool := (gO W t n E i).isSome
theorem gO_none {W : List Int} {t : Int} {n : Nat} {E : Nat → Cel} {i : Int} (h : gO W t n E i = none) : gS W t n E i = [] ∧ gD W t n E i = [] ∧ gB W t n E i = false := by simp [gS, gD, gB, h]
theorem gO_some {W : List Int} {t : Int} {n : Nat} {E : Nat → Cel} {i : Int} {s d : List Int} (h : gO W t n E i = some (s, d)) : gS W t n E i = s ∧ gD W t n E i = d ∧ gB W t n E i = true := by simp [gS, gD, gB, h]
theorem box_top {W : World} {g : Nat} {x y : Value} {t : TypeId} (h : W.heap.size = g) : Box (W.alloc (.cells #[x, y] t)) g x y t := by subst h; exact heap_alloc_new _ _
theorem box_pack {W1 wx : World} {A : Nat} {x y v : Value} {t : TypeId} {S : List Int} (h : Box W1 A x y t) (hb : Below W1.heap.size W1 wx) (hp : Piece W1.heap.size wx.heap.size wx v S) : Box wx A x y t ∧ ∃ lo, A < lo ∧ Piece lo wx.heap.size wx v S := ⟨h.keep hb, W1.heap.size, h.lt, hp⟩
theorem piece_set2 {B C A : Nat} {w : World} {v : Value} {l : List Int} (h : Piece B C w v l) (hd : C ≤ A ∨ A + 1 ≤ B) (a b : Value) : Piece B C ((w.setCell ⟨A, 0, none⟩ a).setCell ⟨A, 1, none⟩ b) v l := (h.win (win_setCell w A 0 a) hd).win (win_setCell _ A 1 b) hd
theorem fin_old {V A lo hx : Nat} {wy : World} {X Y x0 y0 : Value} {S D : List Int} (hV : V ≤ A) (bx : Box wy A x0 y0 32) (hlo : A < lo) (px : Piece lo hx wy X S) (hA : A < hx) (hh : hx ≤ wy.heap.size) (py : Piece hx wy.heap.size wy Y D) :
    Box ((wy.setCell ⟨A, 0, none⟩ X).setCell ⟨A, 1, none⟩ Y) A X Y 32 ∧ Arr V ((wy.setCell ⟨A, 0, none⟩ X).setCell ⟨A, 1, none⟩ Y).heap.size ((wy.setCell ⟨A, 0, none⟩ X).setCell ⟨A, 1, none⟩ Y) (.agg #[X, Y]) S D :=
  ⟨arr_stored bx, _, _, rfl, (piece_set2 (A := A) px (.inr (by omega)) X Y).mono (by omega) (by simp only [size_setCell]; omega), (piece_set2 (A := A) py (.inr (by omega)) X Y).mono (by omega) (by simp only [size_setCell]; omega), (piece_set2 (A := A) px (.inr (by omega)) X Y).apart (piece_set2 (A := A) py (.inr (by omega)) X Y) (.inl (Nat.le_refl _))⟩
theorem fin_mid {V A lo hx : Nat} {wy : World} {X Y x0 y0 : Value} {S D : List Int} (hV : V ≤ hx) (bx : Box wy A x0 y0 32) (hA : hx ≤ A) (px : Piece V hx wy X S) (hlo : A < lo) (hh : hx ≤ wy.heap.size) (py : Piece lo wy.heap.size wy Y D) :
    Box ((wy.setCell ⟨A, 0, none⟩ X).setCell ⟨A, 1, none⟩ Y) A X Y 32 ∧ Arr V ((wy.setCell ⟨A, 0, none⟩ X).setCell ⟨A, 1, none⟩ Y).heap.size ((wy.setCell ⟨A, 0, none⟩ X).setCell ⟨A, 1, none⟩ Y) (.agg #[X, Y]) S D :=
  ⟨arr_stored bx, _, _, rfl, (piece_set2 (A := A) px (.inl hA) X Y).mono (by omega) (by simp only [size_setCell]; omega), (piece_set2 (A := A) py (.inr (by omega)) X Y).mono (by omega) (by simp only [size_setCell]; omega), (piece_set2 (A := A) px (.inl hA) X Y).apart (piece_set2 (A := A) py (.inr (by omega)) X Y) (.inl (by omega))⟩
theorem fin_new {V hx : Nat} {wy : World} {X Y : Value} {S D : List Int} (hV : V ≤ hx) (px : Piece V hx wy X S) (hh : hx ≤ wy.heap.size) (py : Piece hx wy.heap.size wy Y D) :
    Box (wy.alloc (.cells #[X, Y] 32)) wy.heap.size X Y 32 ∧ Arr V (wy.alloc (.cells #[X, Y] 32)).heap.size (wy.alloc (.cells #[X, Y] 32)) (.agg #[X, Y]) S D :=
  have b := bAlloc (Below.refl wy.heap.size wy) (.cells #[X, Y] 32)
  ⟨heap_alloc_new _ _, _, _, rfl, (px.keep b).mono (Nat.le_refl _) (by simp; omega), (py.keep b).mono hV (by simp), (px.keep b).apart (py.keep b) (.inl (Nat.le_refl _))⟩
set_option maxRecDepth 20000 in
set_option maxHeartbeats 16000000 in
theorem heapGet_spec {w : World} {v : Value} {W : List Int} {t : Int} {n : Nat} {E : Nat → Cel} (i : Int) (h : HI w v W t n E) (he : (∀ i, in64 (E i).f ∧ in64 (E i).l) ∧ in64 t) (hW : W.length ≤ 1048576) (hn : n ≤ 1048576) :
    Calls Try.prog 20 #[v, .int .i64 i] w fun e w' => ∃ v', e = .returned (.tuple #[v', .bool (gB W t n E i)]) ∧ Arr w.heap.size w'.heap.size w' v' (gS W t n E i) (gD W t n E i) ∧ Below w.heap.size w w' := by
  have CK : Hid (∀ W', Below w.heap.size w W' → Calls Try.prog 25 #[v] W' fun e w' => e = .returned (.bool (hOkB W.length t n E)) ∧ Below W'.heap.size W' w') := fun W' hb => heapOk_spec (h.keep hb) he hW hn
  have CL : Hid (∀ W', Below w.heap.size w W' → Calls Try.prog 57 #[v, .int .i64 i] W' fun e w' => e = .returned (.bool (liveB n E i)) ∧ Below W'.heap.size W' w') := fun W' hb => live_spec (h.keep hb) i hn
  obtain ⟨wa, wc, ca, cc, rfl, h1, h2, h3, h4⟩ := h
  have H1 : Hid (Ints w wa W) := h1
  have H1c : W.length ≤ wc := h2
  have H3 : Hid (CsA w ca n E) := h3
  have HE : Hid ((∀ i, in64 (E i).f ∧ in64 (E i).l) ∧ in64 t) := he
  clear h1 h2 h3 h4 he
  go_enter Try.func20, Try.ntmps20
  go_wp2_with fail
  generalize hV : (w.alloc (.cells #[.slice wa W.length wc, .int .i64 t, .slice ca n cc] 28)).alloc (.cells #[.slice none 0 0, .slice none 0 0] 32) = V
  have B1 : Hid (Below w.heap.size w V) := by rw [← hV]; exact bAlloc (bAlloc (Below.refl _ _) _) _
  have X1 : Hid (Box3 V w.heap.size (.slice wa W.length wc) (.int .i64 t) (.slice ca n cc) 28) := by rw [← hV]; exact (box3_new _ _ _ _ _).alloc _
  have Y1 : Hid (Box V (w.heap.size + 1) (.slice none 0 0) (.slice none 0 0) 32) := by rw [← hV]; exact heap_alloc2_new w _ _
  clear hV
  refine (CK.out _ B1.out).mono ?_
  rintro r w2 ⟨rfl, hb⟩
  have B2 : Hid (Below w.heap.size w w2) := bTrans B1.out hb
  have X2 : Hid (Box3 w2 w.heap.size (.slice wa W.length wc) (.int .i64 t) (.slice ca n cc) 28) := X1.out.keep hb
  have Y2 : Hid (Box w2 (w.heap.size + 1) (.slice none 0 0) (.slice none 0 0) 32) := Y1.out.keep hb
  clear hb B1 X1 Y1
  by_cases kk : hOkB W.length t n E = true
  case neg =>
    obtain ⟨e1, e2, e3⟩ := gO_none (W := W) (t := t) (n := n) (E := E) (i := i) (by unfold gO; rw [if_neg (fun h => kk h.1)])
    rw [show hOkB W.length t n E = false by simpa using kk]
    have r0 := Y2.out.c0
    have r1 := Y2.out.c1
    have f0 : w2.frozen? ⟨w.heap.size + 1, 0, none⟩ = false := free_at Y2.out 0
    have f1 : w2.frozen? ⟨w.heap.size + 1, 1, none⟩ = false := free_at Y2.out 1
    go_wp2
    refine bodyPost_ret (results_arr_tmp Try.results20 _ _ (w.heap.size + 1) _ _ rfl (arr_stored Y2.out)) rfl ?_
    rw [e1, e2, e3]
    exact ⟨_, rfl, arr_zero _ _ _, below_setCell (below_setCell B2.out (by omega) _ _) (by omega) _ _⟩
  case pos =>
  have OK : Hid (hOk W.length t n E) := hOkB_iff.1 kk
  have x0 := X2.out.c0
  have x1 := X2.out.c1
  have x2 := X2.out.c2
  rw [kk]
  go_wp2_with fail
  refine (CL.out _ B2.out).mono ?_
  rintro r w3 ⟨rfl, hb⟩
  have B3 : Hid (Below w.heap.size w w3) := bTrans B2.out hb
  have X3 : Hid (Box3 w3 w.heap.size (.slice wa W.length wc) (.int .i64 t) (.slice ca n cc) 28) := X2.out.keep hb
  have Y3 : Hid (Box w3 (w.heap.size + 1) (.slice none 0 0) (.slice none 0 0) 32) := Y2.out.keep hb
  clear hb B2 X2 Y2 x0 x1 x2 CK CL
  by_cases ll : liveB n E i = true
  case neg =>
    obtain ⟨e1, e2, e3⟩ := gO_none (W := W) (t := t) (n := n) (E := E) (i := i) (by unfold gO; rw [if_neg (fun h => ll h.2)])
    rw [show liveB n E i = false by simpa using ll]
    have r0 := Y3.out.c0
    have r1 := Y3.out.c1
    have f0 : w3.frozen? ⟨w.heap.size + 1, 0, none⟩ = false := free_at Y3.out 0
    have f1 : w3.frozen? ⟨w.heap.size + 1, 1, none⟩ = false := free_at Y3.out 1
    go_wp2
    refine bodyPost_ret (results_arr_tmp Try.results20 _ _ (w.heap.size + 1) _ _ rfl (arr_stored Y3.out)) rfl ?_
    rw [e1, e2, e3]
    exact ⟨_, rfl, arr_zero _ _ _, below_setCell (below_setCell B3.out (by omega) _ _) (by omega) _ _⟩
  case pos =>
  obtain ⟨k, rfl⟩ : ∃ k : Nat, i = (k : Int) := ⟨i.toNat, by unfold liveB at ll; simp at ll; omega⟩
  have hlv : k < n ∧ (E k).v = true := by unfold liveB at ll; simp at ll; omega
  have fk := (OK.out.2.2.2.2.1 k hlv.1).2 hlv.2
  have tw := OK.out.2.2.1
  obtain ⟨o, off, rfl, ho, p0, p1, p2⟩ := (H3.out.keep B3.out).at hlv.1
  rw [ll]
  have GO : Hid (gO W t n E (k : Int) = arrOf (wds W (E k))) := by show _ = _; unfold gO; rw [if_pos ⟨kk, ll⟩]; simp
  obtain ⟨F, hF⟩ : ∃ F : Nat, (E k).f = (F : Int) := ⟨(E k).f.toNat, by omega⟩
  obtain ⟨L, hL⟩ : ∃ L : Nat, (E k).l = (L : Int) := ⟨(E k).l.toNat, by omega⟩
  have WD : Hid (wds W (E k) = (W.drop F).take L) := by show _ = _; unfold wds; rw [hF, hL]; simp
  rw [hF, hL] at fk
  rw [hF] at p0
  rw [hL] at p1
  rw [hlv.2] at p2
  have k1 : (k : Int) < (n : Int) := by omega
  rw [WD.out] at GO
  obtain ⟨a1, c1, hs1, hc1, i1⟩ := ints_mid (F := F) (L := L) H1.out H1c (by omega)
  obtain ⟨ws, hws⟩ : ∃ ws, ws = (W.drop F).take L := ⟨_, rfl⟩
  rw [← hws] at GO i1
  have lw : ws.length = L := by rw [hws]; simp; omega
  have I1 : Hid (Ints w a1 ws) := i1
  obtain ⟨b1, o1, rfl, hb1, q0⟩ := (i1.keep B3.out).at (k := 0) (by omega)
  rw [Nat.add_zero] at q0
  have GO2 := GO.out
  unfold arrOf at GO2
  rw [lw] at GO2
  generalize hr : ws.getD 0 0 = r at *
  clear hws WD
  have hw9 : IntKind.i64.wrap ((F : Int) + (L : Int)) = (F : Int) + (L : Int) := by rw [IntKind.wrap_i64]; omega
  have hw8 : IntKind.i64.wrap ((L : Int) - 1) = (L : Int) - 1 := by rw [IntKind.wrap_i64]; omega
  have x0 := X3.out.c0
  have x2 := X3.out.c2
  have y0 : ∀ ob : Obj, (w3.alloc ob).cell? ⟨w.heap.size, 0, none⟩ = some (.slice wa W.length wc) := fun ob => (X3.out.alloc ob).c0
  have y2 : ∀ ob : Obj, (w3.alloc ob).cell? ⟨b1, o1, none⟩ = some (.int .i64 r) := fun ob => ((bAlloc (Below.refl w3.heap.size w3) ob).cell (p := ⟨b1, o1, none⟩) hb1).trans q0
  have L1 : (0 : Int) < (L : Int) := by omega
  by_cases rr : 0 ≤ r ∧ r ≤ (L : Int) - 1
  case neg =>
    rw [if_neg rr] at GO2
    obtain ⟨e1, e2, e3⟩ := gO_none GO2
    have hq : (decide ((0 : Int) ≤ r) && decide (r ≤ (L : Int) - 1)) = false := by simp; omega
    have r0 : ∀ ob : Obj, (w3.alloc ob).cell? ⟨w.heap.size + 1, 0, none⟩ = some (.slice none 0 0) := fun ob => (Y3.out.keep (bAlloc (Below.refl _ _) ob)).c0
    have r1 : ∀ ob : Obj, (w3.alloc ob).cell? ⟨w.heap.size + 1, 1, none⟩ = some (.slice none 0 0) := fun ob => (Y3.out.keep (bAlloc (Below.refl _ _) ob)).c1
    have f0 : ∀ ob : Obj, (w3.alloc ob).frozen? ⟨w.heap.size + 1, 0, none⟩ = false := fun ob => free_at (Y3.out.keep (bAlloc (Below.refl _ _) ob)) 0
    have f1 : ∀ ob : Obj, (w3.alloc ob).frozen? ⟨w.heap.size + 1, 1, none⟩ = false := fun ob => free_at (Y3.out.keep (bAlloc (Below.refl _ _) ob)) 1
    go_wp2_with (go_at_call 43; refine (in_spec _ _ _ _).mono ?_; rintro r w1 ⟨rfl, hw⟩; subst w1; rw [hq])
    refine bodyPost_ret (results_arr_tmp Try.results20 _ _ (w.heap.size + 1) _ _ rfl (arr_stored (Y3.out.keep (bAlloc (Below.refl _ _) _)))) rfl ?_
    rw [e1, e2, e3]
    exact ⟨_, rfl, arr_zero _ _ _, below_setCell (below_setCell (bAlloc B3.out _) (by omega) _ _) (by omega) _ _⟩
  case pos =>
  rw [if_pos rr] at GO2
  have hq : (decide ((0 : Int) ≤ r) && decide (r ≤ (L : Int) - 1)) = true := by simp; omega
  obtain ⟨R, rfl⟩ : ∃ R : Nat, r = (R : Int) := ⟨r.toNat, by omega⟩
  rw [Int.toNat_natCast] at GO2
  go_wp2_with (go_at_call 43; refine (in_spec _ _ _ _).mono ?_; rintro r w1 ⟨rfl, hw⟩; subst w1; rw [hq])
  clear x0 x2 y0 p0 p1 p2 hs1
  generalize hV4 : w3.alloc (.cells #[.int .i64 (F : Int), .int .i64 (L : Int), .bool true] 47) = V
  have B4 : Hid (Below w.heap.size w V) := by rw [← hV4]; exact bAlloc B3.out _
  have Y4 : Hid (Box V (w.heap.size + 1) (.slice none 0 0) (.slice none 0 0) 32) := by rw [← hV4]; exact Y3.out.keep (bAlloc (Below.refl _ _) _)
  have q4 : V.cell? ⟨b1, o1, none⟩ = some (.int .i64 (R : Int)) := by rw [← hV4]; exact y2 _
  have LB : Hid (b1 < V.heap.size) := by rw [← hV4]; show _ < _; simp; omega
  clear hV4 y2 q0 X3 Y3 B3
  obtain ⟨a2, c2, hs2, hc2, i2⟩ := ints_mid (F := 1) (L := R) I1.out (by rw [lw]; exact hc1) (by omega)
  obtain ⟨a3, c3, hs3, i3⟩ := ints_fromH (M := 1 + R) I1.out (by rw [lw]; exact hc1) (by omega)
  rw [lw] at hs2 hs3
  obtain ⟨S, hS⟩ : ∃ S, S = (ws.drop 1).take R := ⟨_, rfl⟩
  obtain ⟨D, hD⟩ : ∃ D, D = ws.drop (1 + R) := ⟨_, rfl⟩
  rw [← hS] at i2 GO2
  rw [← hD] at i3 hs3 GO2
  have lS : S.length = R := by rw [hS]; simp; omega
  have lD : D.length ≤ 1048576 := by rw [hD]; simp; omega
  have g2 : ∀ W, (Instr.slice 25 (.slice (some ⟨b1, o1, none⟩) L c1) (some (.int .i64 1)) (some (.int .i64 (1 + (R : Int)))) none).run Try.prog W = .ok (.slice a2 S.length c2) W := fun W => by rw [lS]; exact hs2 W
  have g3 : ∀ W, (Instr.slice 25 (.slice (some ⟨b1, o1, none⟩) L c1) (some (.int .i64 (1 + (R : Int)))) none none).run Try.prog W = .ok (.slice a3 D.length c3) W := fun W => by
    have := hs3 W
    rw [show ((1 + R : Nat) : Int) = 1 + (R : Int) by omega] at this
    exact this
  have I2 : Hid (Ints w a2 S) := i2
  have I3 : Hid (Ints w a3 D) := i3
  have LS : Hid (S.length ≤ 1048576) := by show _ ≤ _; omega
  have LD : Hid (D.length ≤ 1048576) := lD
  have hw7 : IntKind.i64.wrap (1 + (R : Int)) = 1 + (R : Int) := by rw [IntKind.wrap_i64]; omega
  have KB : Hid (∀ W', Below V.heap.size V W' → W'.cell? ⟨b1, o1, none⟩ = some (.int .i64 (R : Int))) := fun W' hb => (hb.cell (p := ⟨b1, o1, none⟩) LB.out).trans q4
  have LV : Hid (w.heap.size + 1 < V.heap.size) := Y4.out.lt
  have HSD : Hid (S.length = R) := lS
  have R1 : 1 + (R : Int) ≤ (L : Int) := by omega
  have L0 : 0 < L := by omega
  have z0 : (0 : Int) ≤ 0 := by omega
  clear hS hD hs2 hs3 i2 i3 i1 lS lD LB OK
  go_cut [8] from 43 (fun p w' => ∃ (g9 : Nat) (ax : Option Addr) (cx : Nat) (ay : Option Addr) (cy : Nat), p = .pointer (some ⟨g9, 0, none⟩) ∧ (Box w' g9 (.slice ax S.length cx) (.slice ay D.length cy) 32 ∧ Arr V.heap.size w'.heap.size w' (.agg #[.slice ax S.length cx, .slice ay D.length cy]) S D) ∧ Below V.heap.size V w')
  case first =>
    have nq := World.new_ne V ⟨b1, o1, none⟩ q4
    go_region_held3 (fun w' => w'.cell? ⟨b1, o1, none⟩ = some (.int .i64 (R : Int)))
      (first | exact z9 _ _ _ (by omega) | (refine KB.out _ ?_; (repeat first | exact BY.out | exact BX.out | exact Below.refl _ _ | refine bAlloc ?_ _ | refine Below.drew ?_); done) | go_keep)
      (first
        | (refine step_append_newI (by rfl) (.tmp 43) (.tmp 49) (by rfl) _ _ _ _ S (by rfl) (by rfl) (I2.out.keep (bTrans B4.out (by repeat first | exact (Below.refl _ _).drew | exact BX.out | exact BY.out | exact Below.refl _ _ | refine bAlloc ?_ _ | refine Below.drew ?_))) LS.out ?_; intro ax cx wx hpx hbx; have BX : Hid (Below V.heap.size V wx) := bTrans (by repeat first | exact (Below.refl _ _).drew | exact BX.out | exact BY.out | exact Below.refl _ _ | refine bAlloc ?_ _ | refine Below.drew ?_) hbx; have PX : Hid (Piece V.heap.size wx.heap.size wx (.slice ax S.length cx) S) := hpx.mono (sizeBelowH (w := V) (by repeat first | exact (Below.refl _ _).drew | exact BX.out | exact BY.out | exact Below.refl _ _ | refine bAlloc ?_ _ | refine Below.drew ?_)) (Nat.le_refl _); (try (refine (have E0 : Hid (Box wx (V.heap.size) (.slice none 0 0) (.slice none 0 0) 32 ∧ ∃ lo, (V.heap.size) < lo ∧ Piece lo wx.heap.size wx (.slice ax S.length cx) S) := ?_; ?_); focus (refine box_pack ?_ hbx hpx; (repeat first | (refine box_top ?_; first | rfl | (simp; done)) | refine Box.keep ?_ (bAlloc (Below.refl _ _) _) | refine Box.keep ?_ ((Below.refl _ _).drew)); done))); (try (refine (have E1 : Hid (Box wx (V.heap.size + 1) (.slice none 0 0) (.slice none 0 0) 32 ∧ ∃ lo, (V.heap.size + 1) < lo ∧ Piece lo wx.heap.size wx (.slice ax S.length cx) S) := ?_; ?_); focus (refine box_pack ?_ hbx hpx; (repeat first | (refine box_top ?_; first | rfl | (simp; done)) | refine Box.keep ?_ (bAlloc (Below.refl _ _) _) | refine Box.keep ?_ ((Below.refl _ _).drew)); done))); (try (refine (have E2 : Hid (Box wx (V.heap.size + 1 + 1) (.slice none 0 0) (.slice none 0 0) 32 ∧ ∃ lo, (V.heap.size + 1 + 1) < lo ∧ Piece lo wx.heap.size wx (.slice ax S.length cx) S) := ?_; ?_); focus (refine box_pack ?_ hbx hpx; (repeat first | (refine box_top ?_; first | rfl | (simp; done)) | refine Box.keep ?_ (bAlloc (Below.refl _ _) _) | refine Box.keep ?_ ((Below.refl _ _).drew)); done))); have x9 := KB.out _ BX.out; have nx9 := World.new_ne wx ⟨b1, o1, none⟩ x9; clear hpx hbx)
        | (refine step_append_newI (by rfl) (.tmp 51) (.tmp 57) (by rfl) _ _ _ _ D (by rfl) (by rfl) (I3.out.keep (bTrans B4.out (by repeat first | exact (Below.refl _ _).drew | exact BX.out | exact BY.out | exact Below.refl _ _ | refine bAlloc ?_ _ | refine Below.drew ?_))) LD.out ?_; intro ay cy wy hpy hby; have BQ : Hid (Below wx.heap.size wx wy) := bTrans (by repeat first | exact Below.refl _ _ | refine bAlloc ?_ _ | refine Below.drew ?_) hby; have BY : Hid (Below V.heap.size V wy) := bTrans BX.out BQ.out; have PX2 : Hid (Piece V.heap.size wx.heap.size wy (.slice ax S.length cx) S) := PX.out.keep BQ.out; have PY : Hid (Piece wx.heap.size wy.heap.size wy (.slice ay D.length cy) D) := hpy.mono (sizeBelowH (w := wx) (by repeat first | exact Below.refl _ _ | refine bAlloc ?_ _ | refine Below.drew ?_)) (Nat.le_refl _); have S12 : Hid (wx.heap.size ≤ wy.heap.size) := BQ.out.size; (try have F0 : Hid (Box wy (V.heap.size) (.slice none 0 0) (.slice none 0 0) 32 ∧ (V.heap.size) < wx.heap.size ∧ ∃ lo, (V.heap.size) < lo ∧ Piece lo wx.heap.size wy (.slice ax S.length cx) S) := (E0.out.elim fun h1 h2 => h2.elim fun lo h3 => ⟨h1.keep BQ.out, h1.lt, lo, h3.1, h3.2.keep BQ.out⟩)); (try have G0 : Hid (Box wy (V.heap.size) (.slice none 0 0) (.slice none 0 0) 32) := F0.out.1); (try have F1 : Hid (Box wy (V.heap.size + 1) (.slice none 0 0) (.slice none 0 0) 32 ∧ (V.heap.size + 1) < wx.heap.size ∧ ∃ lo, (V.heap.size + 1) < lo ∧ Piece lo wx.heap.size wy (.slice ax S.length cx) S) := (E1.out.elim fun h1 h2 => h2.elim fun lo h3 => ⟨h1.keep BQ.out, h1.lt, lo, h3.1, h3.2.keep BQ.out⟩)); (try have G1 : Hid (Box wy (V.heap.size + 1) (.slice none 0 0) (.slice none 0 0) 32) := F1.out.1); (try have F2 : Hid (Box wy (V.heap.size + 1 + 1) (.slice none 0 0) (.slice none 0 0) 32 ∧ (V.heap.size + 1 + 1) < wx.heap.size ∧ ∃ lo, (V.heap.size + 1 + 1) < lo ∧ Piece lo wx.heap.size wy (.slice ax S.length cx) S) := (E2.out.elim fun h1 h2 => h2.elim fun lo h3 => ⟨h1.keep BQ.out, h1.lt, lo, h3.1, h3.2.keep BQ.out⟩)); (try have G2 : Hid (Box wy (V.heap.size + 1 + 1) (.slice none 0 0) (.slice none 0 0) 32) := F2.out.1); (try (refine (have F3 : Hid (Box wy (wx.heap.size) (.slice none 0 0) (.slice none 0 0) 32 ∧ ∃ lo, (wx.heap.size) < lo ∧ Piece lo wy.heap.size wy (.slice ay D.length cy) D) := ?_; ?_); focus (refine box_pack ?_ hby hpy; (repeat first | (refine box_top ?_; first | rfl | (simp; done)) | refine Box.keep ?_ (bAlloc (Below.refl _ _) _) | refine Box.keep ?_ ((Below.refl _ _).drew)); done))); (try have G3 : Hid (Box wy (wx.heap.size) (.slice none 0 0) (.slice none 0 0) 32) := F3.out.1); (try (refine (have F4 : Hid (Box wy (wx.heap.size + 1) (.slice none 0 0) (.slice none 0 0) 32 ∧ ∃ lo, (wx.heap.size + 1) < lo ∧ Piece lo wy.heap.size wy (.slice ay D.length cy) D) := ?_; ?_); focus (refine box_pack ?_ hby hpy; (repeat first | (refine box_top ?_; first | rfl | (simp; done)) | refine Box.keep ?_ (bAlloc (Below.refl _ _) _) | refine Box.keep ?_ ((Below.refl _ _).drew)); done))); (try have G4 : Hid (Box wy (wx.heap.size + 1) (.slice none 0 0) (.slice none 0 0) 32) := F4.out.1); (try have nb00 := G0.out.c0); (try have nb01 := G0.out.c1); (try have nf00 : wy.frozen? ⟨(V.heap.size), 0, none⟩ = false := free_at G0.out 0); (try have nf01 : wy.frozen? ⟨(V.heap.size), 1, none⟩ = false := free_at G0.out 1); (try have nb10 := G1.out.c0); (try have nb11 := G1.out.c1); (try have nf10 : wy.frozen? ⟨(V.heap.size + 1), 0, none⟩ = false := free_at G1.out 0); (try have nf11 : wy.frozen? ⟨(V.heap.size + 1), 1, none⟩ = false := free_at G1.out 1); (try have nb20 := G2.out.c0); (try have nb21 := G2.out.c1); (try have nf20 : wy.frozen? ⟨(V.heap.size + 1 + 1), 0, none⟩ = false := free_at G2.out 0); (try have nf21 : wy.frozen? ⟨(V.heap.size + 1 + 1), 1, none⟩ = false := free_at G2.out 1); (try have nb30 := G3.out.c0); (try have nb31 := G3.out.c1); (try have nf30 : wy.frozen? ⟨(wx.heap.size), 0, none⟩ = false := free_at G3.out 0); (try have nf31 : wy.frozen? ⟨(wx.heap.size), 1, none⟩ = false := free_at G3.out 1); (try have nb40 := G4.out.c0); (try have nb41 := G4.out.c1); (try have nf40 : wy.frozen? ⟨(wx.heap.size + 1), 0, none⟩ = false := free_at G4.out 0); (try have nf41 : wy.frozen? ⟨(wx.heap.size + 1), 1, none⟩ = false := free_at G4.out 1); have hle : V.heap.size ≤ wx.heap.size := BX.out.size; have z9 : ∀ (g : Nat) (a b : Value), V.heap.size ≤ g → ((wy.setCell ⟨g, 0, none⟩ a).setCell ⟨g, 1, none⟩ b).cell? ⟨b1, o1, none⟩ = some (.int .i64 (R : Int)) := fun g a b hg => KB.out _ (below_setCell (below_setCell BY.out hg _ _) hg _ _); clear hpy hby))
    all_goals
      go_wp2_with fail
      go_meet
      case rel =>
        have s12 := S12.out
        first
          | exact ⟨_, _, _, _, _, rfl, fin_new hle PX2.out s12 PY.out, bAlloc BY.out _⟩
          | exact F0.out.elim fun h1 h2 => h2.2.elim fun lo h3 => ⟨(V.heap.size), _, _, _, _, rfl, fin_old (by omega) h1 h3.1 h3.2 h2.1 s12 PY.out, below_setCell (below_setCell BY.out (by omega) _ _) (by omega) _ _⟩
          | exact F1.out.elim fun h1 h2 => h2.2.elim fun lo h3 => ⟨(V.heap.size + 1), _, _, _, _, rfl, fin_old (by omega) h1 h3.1 h3.2 h2.1 s12 PY.out, below_setCell (below_setCell BY.out (by omega) _ _) (by omega) _ _⟩
          | exact F2.out.elim fun h1 h2 => h2.2.elim fun lo h3 => ⟨(V.heap.size + 1 + 1), _, _, _, _, rfl, fin_old (by omega) h1 h3.1 h3.2 h2.1 s12 PY.out, below_setCell (below_setCell BY.out (by omega) _ _) (by omega) _ _⟩
          | exact F3.out.elim fun h1 h2 => h2.elim fun lo h3 => ⟨(wx.heap.size), _, _, _, _, rfl, fin_mid hle h1 (by omega) PX2.out h3.1 s12 h3.2, below_setCell (below_setCell BY.out (by omega) _ _) (by omega) _ _⟩
          | exact F4.out.elim fun h1 h2 => h2.elim fun lo h3 => ⟨(wx.heap.size + 1), _, _, _, _, rfl, fin_mid hle h1 (by omega) PX2.out h3.1 s12 h3.2, below_setCell (below_setCell BY.out (by omega) _ _) (by omega) _ _⟩
  case rest =>
    obtain ⟨g9, ax, cx, ay, cy, rfl, hX, hBel⟩ := hcut
    have XF : Hid (Box wc g9 (.slice ax S.length cx) (.slice ay D.length cy) 32) := hX.1
    have AF : Hid (Arr V.heap.size wc.heap.size wc (.agg #[.slice ax S.length cx, .slice ay D.length cy]) S D) := hX.2
    have WF : Hid (Below w.heap.size w wc) := bTrans B4.out hBel
    have Y9 : Hid (Box wc (w.heap.size + 1) (.slice none 0 0) (.slice none 0 0) 32) := Y4.out.keep hBel
    clear KB hX hBel
    have b0 := XF.out.c0
    have b1' := XF.out.c1
    go_wp2_with fail
    refine (arrOk_spec AF.out.arrI LD.out).mono ?_
    rintro r wg ⟨rfl, hb⟩
    have BG : Hid (Below w.heap.size w wg) := bTrans WF.out hb
    have YG : Hid (Box wg (w.heap.size + 1) (.slice none 0 0) (.slice none 0 0) 32) := Y9.out.keep hb
    have AG : Hid (Arr V.heap.size wc.heap.size wg (.agg #[.slice ax S.length cx, .slice ay D.length cy]) S D) := AF.out.keep hb
    have XG : Hid (Box wg g9 (.slice ax S.length cx) (.slice ay D.length cy) 32) := XF.out.keep hb
    have SG : Hid (wc.heap.size ≤ wg.heap.size) := hb.size
    clear hb b0 b1' XF AF Y9
    have r0 := YG.out.c0
    have r1 := YG.out.c1
    have f0 : wg.frozen? ⟨w.heap.size + 1, 0, none⟩ = false := free_at YG.out 0
    have f1 : wg.frozen? ⟨w.heap.size + 1, 1, none⟩ = false := free_at YG.out 1
    by_cases aa : arrOk S D = true
    · rw [if_pos aa] at GO2
      obtain ⟨e1, e2, e3⟩ := gO_some GO2
      have g0 := XG.out.c0
      have g1 := XG.out.c1
      rw [aa]
      go_wp2
      refine bodyPost_ret (results_arr_tmp Try.results20 _ _ (w.heap.size + 1) _ _ rfl (arr_stored YG.out)) rfl ?_
      rw [e1, e2, e3]
      have LV9 := LV.out
      have SG9 := SG.out
      exact ⟨_, rfl, ((AG.out.setCell LV9 _ _).setCell LV9 _ _).mono (by omega) (by simp only [size_setCell]; omega), below_setCell (below_setCell BG.out (by omega) _ _) (by omega) _ _⟩
    · rw [if_neg aa] at GO2
      obtain ⟨e1, e2, e3⟩ := gO_none GO2
      rw [show arrOk S D = false by simpa using aa]
      go_wp2
      refine bodyPost_ret (results_arr_tmp Try.results20 _ _ (w.heap.size + 1) _ _ rfl (arr_stored YG.out)) rfl ?_
      rw [e1, e2, e3]
      exact ⟨_, rfl, arr_zero _ _ _, below_setCell (below_setCell BG.out (by omega) _ _) (by omega) _ _⟩
end Go.Proofs.Ytmmjidhpmbcoiaa
namespace Go.Proofs.Ytmmjidhpmbcoiaa
open Go.RowKit
set_option linter.unusedVariables false
set_option linter.unusedSimpArgs false
/-- How many words the first k cells have. -/
def usedN (E : Nat → Cel) : Nat → Int
  | 0 => 0
  | k + 1 => usedN E k + (E k).l
noncomputable def usedH (m : Nat) (t : Int) (n : Nat) (E : Nat → Cel) : Int := if hOkB m t n E = true then usedN E n else -1
theorem ok_l {m : Nat} {t : Int} {n : Nat} {E : Nat → Cel} (h : hOk m t n E) {i : Nat} (hi : i < n) : 0 ≤ (E i).l ∧ (E i).l ≤ 6000 := by
  obtain ⟨h1, h2, h3, h4, h5, _⟩ := h
  obtain ⟨f1, f2⟩ := h5 i hi
  cases hv : (E i).v with
  | false => have := f1 hv; omega
  | true => have := f2 hv; omega
theorem used_le {m : Nat} {t : Int} {n : Nat} {E : Nat → Cel} (h : hOk m t n E) : ∀ k, k ≤ n → 0 ≤ usedN E k ∧ usedN E k ≤ 6000 * k
  | 0, _ => by simp [usedN]
  | k + 1, hk => by
    have := used_le h k (by omega)
    have := ok_l h (show k < n by omega)
    simp only [usedN]
    omega
set_option maxRecDepth 20000 in
set_option maxHeartbeats 8000000 in
theorem used_spec {w : World} {v : Value} {W : List Int} {t : Int} {n : Nat} {E : Nat → Cel} (h : HI w v W t n E) (hk : hOk W.length t n E) :
    Calls Try.prog 63 #[v] w fun e w' => e = .returned (.int .i64 (usedN E n)) ∧ Below w.heap.size w w' := by
  obtain ⟨wa, wc, ca, cc, rfl, h1, h2, h3, h4⟩ := h
  have H3 : Hid (CsA w ca n E) := h3
  have HK : Hid (∀ k, k ≤ n → 0 ≤ usedN E k ∧ usedN E k ≤ 6000 * k) := used_le hk
  have n200 : n ≤ 200 := hk.2.2.2.1
  clear h1 h2 h3 h4 hk
  go_enter Try.func63, Try.ntmps63
  go_wp2
  generalize hW1 : w.alloc (.cells #[.slice wa W.length wc, .int .i64 t, .slice ca n cc] 28) = w1
  have X1 : Hid (Box3 w1 w.heap.size (.slice wa W.length wc) (.int .i64 t) (.slice ca n cc) 28) := by rw [← hW1]; exact box3_new _ _ _ _ _
  have B1 : Hid (Below w.heap.size w w1) := by rw [← hW1]; exact bAlloc (Below.refl _ _) _
  clear hW1
  have Z0 : Hid (usedN E 0 = 0) := rfl
  go_loopw [3, 4] (fun s i w' => ∃ k : Nat, k ≤ n ∧ i = .int .i64 (k : Int) ∧ s = .int .i64 (usedN E k) ∧ Hid (w' = w1)) (fun _ i _ => n - (intOf i).toNat)
  case atStart => exact ⟨0, by omega, rfl, rfl, (rfl : w1 = w1)⟩
  case round =>
    obtain ⟨k, hk, rfl, rfl, hw⟩ := hrel
    have x2 : wr.cell? ⟨w.heap.size, 2, none⟩ = some (.slice ca n cc) := by rw [hw.out]; exact X1.out.c2
    by_cases hlt : (k : Int) < (n : Int)
    · have L : k < n := by omega
      obtain ⟨o, off, rfl, ho, p0, p1, p2⟩ := (show CsA wr ca n E by rw [hw.out]; exact H3.out.keep B1.out).at L
      have b1 := HK.out (k + 1) (by omega)
      have US : Hid (usedN E (k + 1) = usedN E k + (E k).l) := rfl
      rw [US.out] at b1
      generalize usedN E k = Y at *
      generalize (E k).l = l at *
      have hw9 : IntKind.i64.wrap (Y + l) = Y + l := by rw [IntKind.wrap_i64]; omega
      go_wp2
      go_roundw
      case rel => exact ⟨k + 1, by omega, by go_num, by rw [US.out], hw⟩
      case measure => simp [intOf]; omega
    · obtain rfl : k = n := by omega
      go_wp2
      go_ret
      exact ⟨rfl, by rw [hw.out]; exact B1.out⟩
set_option maxRecDepth 20000 in
set_option maxHeartbeats 8000000 in
theorem heapUsed_spec {w : World} {v : Value} {W : List Int} {t : Int} {n : Nat} {E : Nat → Cel} (h : HI w v W t n E) (he : (∀ i, in64 (E i).f ∧ in64 (E i).l) ∧ in64 t) (hW : W.length ≤ 1048576) (hn : n ≤ 1048576) :
    Calls Try.prog 29 #[v] w fun e w' => e = .returned (.int .i64 (usedH W.length t n E)) ∧ Below w.heap.size w w' := by
  have CK : Hid (∀ W', Below w.heap.size w W' → Calls Try.prog 25 #[v] W' fun e w' => e = .returned (.bool (hOkB W.length t n E)) ∧ Below W'.heap.size W' w') := fun W' hb => heapOk_spec (h.keep hb) he hW hn
  have CU : Hid (hOkB W.length t n E = true → ∀ W', Below w.heap.size w W' → Calls Try.prog 63 #[v] W' fun e w' => e = .returned (.int .i64 (usedN E n)) ∧ Below W'.heap.size W' w') := fun hk W' hb => used_spec (h.keep hb) (hOkB_iff.1 hk)
  have UH : Hid (usedH W.length t n E = if hOkB W.length t n E = true then usedN E n else -1) := rfl
  obtain ⟨wa, wc, ca, cc, rfl, h1, h2, h3, h4⟩ := h
  clear h1 h2 h3 h4
  generalize usedH W.length t n E = U at *
  generalize hOkB W.length t n E = V at *
  go_enter Try.func29, Try.ntmps29
  go_wp2_with fail
  generalize hW1 : w.alloc (.cells #[.slice wa W.length wc, .int .i64 t, .slice ca n cc] 28) = w1
  have X1 : Hid (Box3 w1 w.heap.size (.slice wa W.length wc) (.int .i64 t) (.slice ca n cc) 28) := by rw [← hW1]; exact box3_new _ _ _ _ _
  have B1 : Hid (Below w.heap.size w w1) := by rw [← hW1]; exact bAlloc (Below.refl _ _) _
  clear hW1
  refine (CK.out _ B1.out).mono ?_
  rintro r w2 ⟨rfl, hb⟩
  have X2 : Hid (Box3 w2 w.heap.size (.slice wa W.length wc) (.int .i64 t) (.slice ca n cc) 28) := X1.out.keep hb
  have B2 : Hid (Below w.heap.size w w2) := bTrans B1.out hb
  clear hb X1 B1
  cases V with
  | false =>
    go_wp2
    go_ret
    exact ⟨by rw [UH.out]; rfl, B2.out⟩
  | true =>
    have x0 := X2.out.c0
    have x1 := X2.out.c1
    have x2 := X2.out.c2
    go_wp2_with fail
    refine (CU.out (by trivial) _ B2.out).mono ?_
    rintro r w3 ⟨rfl, hb⟩
    have B3 : Hid (Below w.heap.size w w3) := bTrans B2.out hb
    clear hb x0 x1 x2
    go_wp2
    go_ret
    exact ⟨by rw [UH.out]; rfl, B3.out⟩
set_option maxRecDepth 20000 in
set_option maxHeartbeats 8000000 in
theorem used_impl {w : World} {v : Value} {W : List Int} {t : Int} {n : Nat} {E : Nat → Cel} (h : HI w v W t n E) (hk : hOk W.length t n E) :
    Calls Try.prog 47 #[v] w fun e w' => e = .returned (.int .i64 (usedN E n)) ∧ Below w.heap.size w w' := by
  obtain ⟨wa, wc, ca, cc, rfl, h1, h2, h3, h4⟩ := h
  have H3 : Hid (CsA w ca n E) := h3
  have KK : Hid (n ≤ 200 ∧ ∀ k, k ≤ n → 0 ≤ usedN E k ∧ usedN E k ≤ 6000 * k) := ⟨hk.2.2.2.1, used_le hk⟩
  clear h1 h2 h3 h4 hk
  go_enter Try.func47, Try.ntmps47
  go_wp2
  generalize hW1 : w.alloc (.cells #[.slice wa W.length wc, .int .i64 t, .slice ca n cc] 28) = w1
  have B1 : Hid (Below w.heap.size w w1) := by rw [← hW1]; exact bAlloc (Below.refl _ _) _
  clear hW1
  have Z0 : Hid (usedN E 0 = 0) := rfl
  go_loopw [3, 9] (fun s i w' => ∃ k : Nat, k ≤ n ∧ i = .int .i64 (k : Int) ∧ s = .int .i64 (usedN E k) ∧ Below w.heap.size w w') (fun _ i _ => n - (intOf i).toNat)
  case atStart => exact ⟨0, by omega, rfl, rfl, B1.out⟩
  case round =>
    obtain ⟨k, hk, rfl, rfl, hB⟩ := hrel
    have BK : Hid (Below w.heap.size w wr) := hB
    have n200 := KK.out.1
    clear hB
    by_cases hlt : (k : Int) < (n : Int)
    · have L : k < n := by omega
      obtain ⟨o, off, rfl, ho, p0, p1, p2⟩ := (H3.out.keep BK.out).at L
      have b1 := KK.out.2 (k + 1) (by omega)
      have US : Hid (usedN E (k + 1) = usedN E k + (E k).l) := rfl
      rw [US.out] at b1
      generalize usedN E k = Y at *
      generalize (E k).l = l at *
      generalize (E k).f = f at *
      generalize (E k).v = b at *
      have hw9 : IntKind.i64.wrap (Y + l) = Y + l := by rw [IntKind.wrap_i64]; omega
      go_wp2
      go_roundw
      case rel => exact ⟨k + 1, by omega, by go_num, by rw [US.out], bAlloc BK.out _⟩
      case measure => simp [intOf]; omega
    · obtain rfl : k = n := by omega
      go_wp2
      go_ret
      exact ⟨rfl, BK.out⟩
set_option maxRecDepth 20000 in
set_option maxHeartbeats 8000000 in
theorem heapUsed_impl (hS : SortsBy) (hS0 : SortsNone) {w : World} {v : Value} {W : List Int} {t : Int} {n : Nat} {E : Nat → Cel} (h : HI w v W t n E) (he : (∀ i, in64 (E i).f ∧ in64 (E i).l) ∧ in64 t) (hW : W.length ≤ 1048576) (hn : n ≤ 1048576) :
    Calls Try.prog 15 #[v] w fun e w' => e = .returned (.int .i64 (usedH W.length t n E)) ∧ Below w.heap.size w w' := by
  have CK : Hid (∀ W', Below w.heap.size w W' → Calls Try.prog 16 #[v] W' fun e w' => e = .returned (.bool (hOkB W.length t n E)) ∧ Below W'.heap.size W' w') := fun W' hb => heapOk_impl hS hS0 (h.keep hb) he hW hn
  have CU : Hid (hOkB W.length t n E = true → ∀ W', Below w.heap.size w W' → Calls Try.prog 47 #[v] W' fun e w' => e = .returned (.int .i64 (usedN E n)) ∧ Below W'.heap.size W' w') := fun hk W' hb => used_impl (h.keep hb) (hOkB_iff.1 hk)
  have UH : Hid (usedH W.length t n E = if hOkB W.length t n E = true then usedN E n else -1) := rfl
  obtain ⟨wa, wc, ca, cc, rfl, h1, h2, h3, h4⟩ := h
  clear h1 h2 h3 h4
  generalize usedH W.length t n E = U at *
  generalize hOkB W.length t n E = V at *
  go_enter Try.func15, Try.ntmps15
  go_wp2_with fail
  generalize hW1 : w.alloc (.cells #[.slice wa W.length wc, .int .i64 t, .slice ca n cc] 28) = w1
  have X1 : Hid (Box3 w1 w.heap.size (.slice wa W.length wc) (.int .i64 t) (.slice ca n cc) 28) := by rw [← hW1]; exact box3_new _ _ _ _ _
  have B1 : Hid (Below w.heap.size w w1) := by rw [← hW1]; exact bAlloc (Below.refl _ _) _
  clear hW1
  refine (CK.out _ B1.out).mono ?_
  rintro r w2 ⟨rfl, hb⟩
  have X2 : Hid (Box3 w2 w.heap.size (.slice wa W.length wc) (.int .i64 t) (.slice ca n cc) 28) := X1.out.keep hb
  have B2 : Hid (Below w.heap.size w w2) := bTrans B1.out hb
  clear hb X1 B1
  cases V with
  | false =>
    go_wp2
    go_ret
    exact ⟨by rw [UH.out]; rfl, B2.out⟩
  | true =>
    have x0 := X2.out.c0
    have x1 := X2.out.c1
    have x2 := X2.out.c2
    go_wp2_with fail
    refine (CU.out (by trivial) _ B2.out).mono ?_
    rintro r w3 ⟨rfl, hb⟩
    have B3 : Hid (Below w.heap.size w w3) := bTrans B2.out hb
    clear hb x0 x1 x2
    go_wp2
    go_ret
    exact ⟨by rw [UH.out]; rfl, B3.out⟩
end Go.Proofs.Ytmmjidhpmbcoiaa
namespace Go.Proofs.Ytmmjidhpmbcoiaa
open Go.RowKit
set_option linter.unusedVariables false
set_option linter.unusedSimpArgs false
/-- The cells without that one. -/
def dropE (n : Nat) (E : Nat → Cel) (i : Int) : Nat → Cel := if liveB n E i = true then up E i.toNat cel0 else E
theorem liveB_at {n : Nat} {E : Nat → Cel} {i : Int} (h : liveB n E i = true) : ∃ k : Nat, i = (k : Int) ∧ k < n ∧ (E k).v = true := by
  unfold liveB at h
  simp at h
  obtain ⟨k, rfl⟩ : ∃ k : Nat, i = (k : Int) := ⟨i.toNat, by omega⟩
  exact ⟨k, rfl, by omega, by simpa using h.2⟩
/-- A heap's window as one in which its cells alone turn. -/
theorem HP.turn {B C lo hi : Nat} {w w' : World} {x z : Value} {W : List Int} {t : Int} {n : Nat} {E E' : Nat → Cel} {M : Nat} (h1 : Piece B M w x W) (hM : B ≤ M) (hC : M ≤ C) (hw : Win M hi w w') (hz : CPiece M C w' z n E') : HP B C w' (.agg #[x, .int .i64 t, z]) W t n E' :=
  ⟨x, z, M, rfl, hM, hC, h1.win hw (.inl (Nat.le_refl _)), hz⟩
set_option maxRecDepth 20000 in
set_option maxHeartbeats 8000000 in
theorem drop_spec {B C : Nat} {w : World} {v : Value} {W : List Int} {t : Int} {n : Nat} {E : Nat → Cel} (h : HP B C w v W t n E) (hC : C ≤ w.heap.size) {k : Nat} (hk : k < n) (hn : n ≤ 1048576) :
    Calls Try.prog 60 #[v, .int .i64 (k : Int)] w fun e w' => ∃ v', e = .returned v' ∧ HP B C w' v' W t n (up E k cel0) ∧ Below B w w' := by
  obtain ⟨x, z, M, rfl, m1, m2, h1, h2⟩ := h
  obtain ⟨ca, cc, rfl, hcc, h2⟩ := h2
  rcases h2 with h2 | ⟨g, rfl, hg1, hg2, h2⟩
  · omega
  have H1 : Hid (Piece B M w x W) := h1
  have HG : Hid (M ≤ g ∧ g < C) := ⟨hg1, hg2⟩
  obtain ⟨wa, wc, rfl, _⟩ := h1
  have hi : (k : Int) < (n : Int) := by omega
  go_enter Try.func60, Try.ntmps60
  generalize hz : w.heap.size = sz at *
  obtain ⟨A, hA⟩ : ∃ A, A = (w.alloc (.cells #[.slice wa W.length wc, .int .i64 t, .slice (some ⟨g, 0, none⟩) n cc] 28)).alloc (.cells #[.slice none 0 0, .int .i64 0, .slice none 0 0] 28) := ⟨_, rfl⟩
  have BA : Below w.heap.size w A := by rw [hA]; exact bAlloc (bAlloc (Below.refl _ _) _) _
  have HB : Hid (CBlk A g n E) := h2.keep BA
  obtain ⟨c0, c1, c2, f0, f1, f2⟩ := HB.out.cells hk
  rw [hA] at c0 c1 c2 f0 f1 f2
  go_wp2
  clear c0 c1 c2 f0 f1 f2
  rw [← hA]
  have YA : Hid (Box3 A (sz + 1) (.slice none 0 0) (.int .i64 0) (.slice none 0 0) 28) := by
    have := box3_new (w.alloc (.cells #[.slice wa W.length wc, .int .i64 t, .slice (some ⟨g, 0, none⟩) n cc] 28)) (.slice none 0 0) (.int .i64 0) (.slice none 0 0) 28
    show Box3 _ _ _ _ _ _
    rw [hA, ← hz]; simpa using this
  clear hA
  have TB : Hid (CBlk (((A.setCell ⟨g, k * 3, none⟩ (.int .i64 0)).setCell ⟨g, k * 3 + 1, none⟩ (.int .i64 0)).setCell ⟨g, k * 3 + 2, none⟩ (.bool false)) g n (up E k cel0)) := HB.out.set hk cel0
  have WT : Win g (g + 1) A (((A.setCell ⟨g, k * 3, none⟩ (.int .i64 0)).setCell ⟨g, k * 3 + 1, none⟩ (.int .i64 0)).setCell ⟨g, k * 3 + 2, none⟩ (.bool false)) := set3_win _ _ _ _ _ _
  have hgs : g < sz := by omega
  have YT := YA.out.win WT (by omega)
  generalize hT : ((A.setCell ⟨g, k * 3, none⟩ (.int .i64 0)).setCell ⟨g, k * 3 + 1, none⟩ (.int .i64 0)).setCell ⟨g, k * 3 + 2, none⟩ (.bool false) = AT at *
  generalize hZ : ((AT.setCell ⟨sz + 1, 0, none⟩ (.slice wa W.length wc)).setCell ⟨sz + 1, 1, none⟩ (.int .i64 t)).setCell ⟨sz + 1, 2, none⟩ (.slice (some ⟨g, 0, none⟩) n cc) = wz
  have YZ : Box3 wz (sz + 1) (.slice wa W.length wc) (.int .i64 t) (.slice (some ⟨g, 0, none⟩) n cc) 28 := by rw [← hZ]; exact ((YT.set0 _).set1 _).set2 _
  have WZ : Win (sz + 1) (sz + 1 + 1) AT wz := by rw [← hZ]; exact ((win_setCell _ _ _ _).trans (win_setCell _ _ _ _)).trans (win_setCell _ _ _ _)
  have WA : Win M (sz + 1 + 1) A wz := by
    have s1 := WT.size
    have s2 := WZ.size
    exact ⟨by rw [WZ.os, WT.os], by rw [WZ.tape, WT.tape], by rw [WZ.output, WT.output], by omega, fun j hj hd => by rw [WZ.block j (by omega) (by omega), WT.block j hj (by omega)]⟩
  have v0 := YZ.c0
  have v1 := YZ.c1
  have v2 := YZ.c2
  clear hZ hT
  refine bodyPost_ret (v := .agg #[.slice wa W.length wc, .int .i64 t, .slice (some ⟨g, 0, none⟩) n cc]) (by simp [results, Try.results60, go_sem, v0, v1, v2]) rfl ?_
  rw [hz] at BA
  have sA := BA.size
  exact ⟨_, rfl, HP.turn (lo := 0) (E := E) (H1.out.keep (by rw [hz]; exact BA)) m1 m2 WA ⟨_, _, rfl, hcc, .inr ⟨g, rfl, hg1, hg2, TB.out.win WZ (by omega)⟩⟩, (BA.mono (by omega)).trans (WA.below m1 (by omega))⟩
theorem win_drew {B C : Nat} {w w' : World} (h : Win B C w w') : Win B C w w'.drew := ⟨h.os, h.tape, h.output, h.size, h.block⟩
theorem fit_dead {t : Int} {c : Cel} (h : fit t c) (hv : c.v = false) : c = cel0 := Cel.ext' (h.1 hv).1 (h.1 hv).2 hv
set_option maxRecDepth 20000 in
set_option maxHeartbeats 8000000 in
/-- The cell under a handle, and whether it is in use. -/
theorem at_impl {w : World} {ca : Option Addr} {n cc : Nat} {E : Nat → Cel} {t : Int} (h : CsA w ca n E) (hf : ∀ i, i < n → fit t (E i)) (i : Int) (hn : n ≤ 1048576) :
    Calls Try.prog 95 #[.slice ca n cc, .int .i64 i] w fun e w' => e = .returned (.tuple #[.agg #[.int .i64 (atC n E i).f, .int .i64 (atC n E i).l, .bool (atC n E i).v], .bool (liveB n E i)]) ∧ Below w.heap.size w w' := by
  by_cases c1 : i < 0
  · have e1 : atC n E i = cel0 := by unfold atC; rw [if_neg (by omega)]
    have e2 : liveB n E i = false := by unfold liveB; simp; omega
    rw [e1, e2]
    clear h hf
    go_enter Try.func95, Try.ntmps95
    go_wp2
    go_returns
    exact ⟨rfl, bAlloc (bAlloc (Below.refl _ _) _) _⟩
  by_cases c2 : i ≥ (n : Int)
  · have e1 : atC n E i = cel0 := by unfold atC; rw [if_neg (by omega)]
    have e2 : liveB n E i = false := by unfold liveB; simp; omega
    rw [e1, e2]
    clear h hf
    go_enter Try.func95, Try.ntmps95
    go_wp2
    go_returns
    exact ⟨rfl, bAlloc (bAlloc (Below.refl _ _) _) _⟩
  obtain ⟨k, rfl⟩ : ∃ k : Nat, i = (k : Int) := ⟨i.toNat, by omega⟩
  have hk : k < n := by omega
  have e1 : atC n E (k : Int) = E k := by unfold atC; rw [if_pos (by omega)]; simp
  have e2 : liveB n E (k : Int) = (E k).v := by unfold liveB; simp; omega
  rw [e1, e2]
  obtain ⟨V, hV⟩ : ∃ V, V = (w.alloc (.cells #[.int .i64 0, .int .i64 0, .bool false] 47)).alloc (.cells #[.int .i64 0, .int .i64 0, .bool false] 47) := ⟨_, rfl⟩
  have BV : Hid (Below w.heap.size w V) := by rw [hV]; exact bAlloc (bAlloc (Below.refl _ _) _) _
  obtain ⟨o, off, rfl, ho, p0, p1, p2⟩ := (h.keep BV.out).at hk
  have R : Hid (Box3 V w.heap.size (.int .i64 0) (.int .i64 0) (.bool false) 47) := by rw [hV]; exact (box3_new _ _ _ _ _).alloc _
  have Q : Hid (Box3 V (w.heap.size + 1) (.int .i64 0) (.int .i64 0) (.bool false) 47) := by
    have := box3_new (w.alloc (.cells #[.int .i64 0, .int .i64 0, .bool false] 47)) (.int .i64 0) (.int .i64 0) (.bool false) 47
    show Box3 _ _ _ _ _ _
    rw [hV]; simpa using this
  have fk := hf k hk
  have hoo : o < w.heap.size := by
    obtain ⟨o', off', e, ho', _⟩ := h.at hk
    cases e; exact ho'
  have i1 : (k : Int) < (n : Int) := by omega
  have n1 : ¬ (k : Int) < 0 := by omega
  have n2 : ¬ (k : Int) ≥ (n : Int) := by omega
  have q0 := Q.out.c0
  have q1 := Q.out.c1
  have q2 := Q.out.c2
  have r0 := R.out.c0
  have r1 := R.out.c1
  have r2 := R.out.c2
  have f0 := R.out.free 0
  have f1 := R.out.free 1
  have f2 := R.out.free 2
  clear h hf e1 e2 ho
  generalize E k = c at *
  obtain ⟨f, l, b⟩ := c
  simp only at p0 p1 p2 fk ⊢
  have KP : Hid (∀ W' : World, Win w.heap.size (w.heap.size + 1) V W' → W'.cell? ⟨o, off + k * 3, none⟩ = some (.int .i64 f) ∧ W'.cell? ⟨o, off + k * 3 + 1, none⟩ = some (.int .i64 l) ∧ W'.cell? ⟨o, off + k * 3 + 2, none⟩ = some (.bool b) ∧ W'.cell? ⟨w.heap.size + 1, 0, none⟩ = some (.int .i64 0) ∧ W'.cell? ⟨w.heap.size + 1, 1, none⟩ = some (.int .i64 0) ∧ W'.cell? ⟨w.heap.size + 1, 2, none⟩ = some (.bool false)) := fun W' hw => by
    have hblk := hw.block o (by have := BV.out.size; omega) (.inl hoo)
    have cc : ∀ j, W'.cell? ⟨o, j, none⟩ = V.cell? ⟨o, j, none⟩ := fun j => by simp only [World.cell?, hblk]
    have Q' := Q.out.win hw (.inr (Nat.le_refl _))
    exact ⟨by rw [cc]; exact p0, by rw [cc]; exact p1, by rw [cc]; exact p2, Q'.c0, Q'.c1, Q'.c2⟩
  have SET : Hid (∀ x y z : Value, Win w.heap.size (w.heap.size + 1) V (((V.setCell ⟨w.heap.size, 0, none⟩ x).setCell ⟨w.heap.size, 1, none⟩ y).setCell ⟨w.heap.size, 2, none⟩ z)) := fun x y z => ((win_setCell _ _ _ _).trans (win_setCell _ _ _ _)).trans (win_setCell _ _ _ _)
  cases b with
  | false =>
    obtain ⟨rfl, rfl⟩ : f = 0 ∧ l = 0 := fk.1 rfl
    go_enter Try.func95, Try.ntmps95
    go_wp2
    rw [← hV]
    clear hV
    go_region_held3 (fun w' => w'.cell? ⟨o, off + k * 3, none⟩ = some (.int .i64 0) ∧ w'.cell? ⟨o, off + k * 3 + 1, none⟩ = some (.int .i64 0) ∧ w'.cell? ⟨o, off + k * 3 + 2, none⟩ = some (.bool false) ∧ w'.cell? ⟨w.heap.size + 1, 0, none⟩ = some (.int .i64 0) ∧ w'.cell? ⟨w.heap.size + 1, 1, none⟩ = some (.int .i64 0) ∧ w'.cell? ⟨w.heap.size + 1, 2, none⟩ = some (.bool false))
      (first | exact ⟨p0, p1, p2, q0, q1, q2⟩ | exact KP.out _ (SET.out _ _ _) | exact KP.out _ (win_drew (SET.out _ _ _)))
      (fail)
    go_wp2
    generalize hZ : ((V.setCell ⟨w.heap.size, 0, none⟩ (.int .i64 0)).setCell ⟨w.heap.size, 1, none⟩ (.int .i64 0)).setCell ⟨w.heap.size, 2, none⟩ (.bool false) = wz
    have RZ : Box3 wz w.heap.size (.int .i64 0) (.int .i64 0) (.bool false) 47 := by rw [← hZ]; exact ((R.out.set0 _).set1 _).set2 _
    have WZ : Hid (Win w.heap.size (w.heap.size + 1) V wz) := by rw [← hZ]; exact SET.out _ _ _
    have v0 : wz.drew.cell? ⟨w.heap.size, 0, none⟩ = some (.int .i64 0) := RZ.c0
    have v1 : wz.drew.cell? ⟨w.heap.size, 1, none⟩ = some (.int .i64 0) := RZ.c1
    have v2 : wz.drew.cell? ⟨w.heap.size, 2, none⟩ = some (.bool false) := RZ.c2
    clear hZ
    refine bodyPost_ret (v := .tuple #[.agg #[.int .i64 0, .int .i64 0, .bool false], .bool false]) (by simp [results, Try.results95, go_sem, v0, v1, v2]) rfl ?_
    exact ⟨rfl, BV.out.trans ((win_drew WZ.out).below (Nat.le_refl _) BV.out.size)⟩
  | true =>
    have l0 : ¬ l = 0 := by have := (fk.2 rfl).1; simp at this; omega
    by_cases e0 : f = 0
    · subst e0
      go_enter Try.func95, Try.ntmps95
      go_wp2
      rw [← hV]
      clear hV
      go_region_held3 (fun w' => w'.cell? ⟨o, off + k * 3, none⟩ = some (.int .i64 0) ∧ w'.cell? ⟨o, off + k * 3 + 1, none⟩ = some (.int .i64 l) ∧ w'.cell? ⟨o, off + k * 3 + 2, none⟩ = some (.bool true) ∧ w'.cell? ⟨w.heap.size + 1, 0, none⟩ = some (.int .i64 0) ∧ w'.cell? ⟨w.heap.size + 1, 1, none⟩ = some (.int .i64 0) ∧ w'.cell? ⟨w.heap.size + 1, 2, none⟩ = some (.bool false))
        (first | exact ⟨p0, p1, p2, q0, q1, q2⟩ | exact KP.out _ (SET.out _ _ _) | exact KP.out _ (win_drew (SET.out _ _ _)))
        (fail)
      go_wp2
      generalize hZ : ((V.setCell ⟨w.heap.size, 0, none⟩ (.int .i64 0)).setCell ⟨w.heap.size, 1, none⟩ (.int .i64 l)).setCell ⟨w.heap.size, 2, none⟩ (.bool true) = wz
      have RZ : Box3 wz w.heap.size (.int .i64 0) (.int .i64 l) (.bool true) 47 := by rw [← hZ]; exact ((R.out.set0 _).set1 _).set2 _
      have WZ : Hid (Win w.heap.size (w.heap.size + 1) V wz) := by rw [← hZ]; exact SET.out _ _ _
      have v0 : wz.drew.cell? ⟨w.heap.size, 0, none⟩ = some (.int .i64 0) := RZ.c0
      have v1 : wz.drew.cell? ⟨w.heap.size, 1, none⟩ = some (.int .i64 l) := RZ.c1
      have v2 : wz.drew.cell? ⟨w.heap.size, 2, none⟩ = some (.bool true) := RZ.c2
      clear hZ
      refine bodyPost_ret (v := .tuple #[.agg #[.int .i64 0, .int .i64 l, .bool true], .bool true]) (by simp [results, Try.results95, go_sem, v0, v1, v2]) rfl ?_
      exact ⟨rfl, BV.out.trans ((win_drew WZ.out).below (Nat.le_refl _) BV.out.size)⟩
    · skip
      go_enter Try.func95, Try.ntmps95
      go_wp2
      rw [← hV]
      clear hV
      go_region_held3 (fun w' => w'.cell? ⟨o, off + k * 3, none⟩ = some (.int .i64 f) ∧ w'.cell? ⟨o, off + k * 3 + 1, none⟩ = some (.int .i64 l) ∧ w'.cell? ⟨o, off + k * 3 + 2, none⟩ = some (.bool true) ∧ w'.cell? ⟨w.heap.size + 1, 0, none⟩ = some (.int .i64 0) ∧ w'.cell? ⟨w.heap.size + 1, 1, none⟩ = some (.int .i64 0) ∧ w'.cell? ⟨w.heap.size + 1, 2, none⟩ = some (.bool false))
        (first | exact ⟨p0, p1, p2, q0, q1, q2⟩ | exact KP.out _ (SET.out _ _ _) | exact KP.out _ (win_drew (SET.out _ _ _)))
        (fail)
      go_wp2
      generalize hZ : ((V.setCell ⟨w.heap.size, 0, none⟩ (.int .i64 f)).setCell ⟨w.heap.size, 1, none⟩ (.int .i64 l)).setCell ⟨w.heap.size, 2, none⟩ (.bool true) = wz
      have RZ : Box3 wz w.heap.size (.int .i64 f) (.int .i64 l) (.bool true) 47 := by rw [← hZ]; exact ((R.out.set0 _).set1 _).set2 _
      have WZ : Hid (Win w.heap.size (w.heap.size + 1) V wz) := by rw [← hZ]; exact SET.out _ _ _
      have v0 : wz.drew.cell? ⟨w.heap.size, 0, none⟩ = some (.int .i64 f) := RZ.c0
      have v1 : wz.drew.cell? ⟨w.heap.size, 1, none⟩ = some (.int .i64 l) := RZ.c1
      have v2 : wz.drew.cell? ⟨w.heap.size, 2, none⟩ = some (.bool true) := RZ.c2
      clear hZ
      refine bodyPost_ret (v := .tuple #[.agg #[.int .i64 f, .int .i64 l, .bool true], .bool true]) (by simp [results, Try.results95, go_sem, v0, v1, v2]) rfl ?_
      exact ⟨rfl, BV.out.trans ((win_drew WZ.out).below (Nat.le_refl _) BV.out.size)⟩
set_option maxRecDepth 20000 in
set_option maxHeartbeats 8000000 in
/-- A cell is set. -/
theorem with_impl {w : World} {g n cc k : Nat} {E : Nat → Cel} (h : CBlk w g n E) (hk : k < n) (c : Cel) (hn : n ≤ 1048576) :
    Calls Try.prog 83 #[.slice (some ⟨g, 0, none⟩) n cc, .int .i64 (k : Int), .agg #[.int .i64 c.f, .int .i64 c.l, .bool c.v]] w fun e w' => e = .returned (.slice (some ⟨g, 0, none⟩) n cc) ∧ CBlk w' g n (up E k c) ∧ Win g (g + 1) w w' := by
  obtain ⟨V, hV⟩ : ∃ V, V = w.alloc (.cells #[.int .i64 c.f, .int .i64 c.l, .bool c.v] 47) := ⟨_, rfl⟩
  have BV : Below w.heap.size w V := by rw [hV]; exact bAlloc (Below.refl _ _) _
  have HB : Hid (CBlk V g n E) := h.keep BV
  have T3 : Hid (CBlk (((V.setCell ⟨g, k * 3, none⟩ (.int .i64 c.f)).setCell ⟨g, k * 3 + 1, none⟩ (.int .i64 c.l)).setCell ⟨g, k * 3 + 2, none⟩ (.bool c.v)) g n (up E k c)) := HB.out.set hk c
  have W3 : Hid (Win g (g + 1) w (((V.setCell ⟨g, k * 3, none⟩ (.int .i64 c.f)).setCell ⟨g, k * 3 + 1, none⟩ (.int .i64 c.l)).setCell ⟨g, k * 3 + 2, none⟩ (.bool c.v))) := (Below.win BV).trans (set3_win _ _ _ _ _ _)
  obtain ⟨c0, c1, c2, f0, f1, f2⟩ := HB.out.cells hk
  have hne : ¬ ((k : Int) = (n : Int)) := by omega
  have hi : (k : Int) < (n : Int) := by omega
  rw [hV] at c0 c1 c2 f0 f1 f2 T3 W3
  clear hV BV h HB
  obtain ⟨f, l, b⟩ := c
  simp only at T3 W3 ⊢
  go_enter Try.func83, Try.ntmps83
  go_wp2
  go_ret
  exact ⟨rfl, T3.out, W3.out⟩
end Go.Proofs.Ytmmjidhpmbcoiaa
namespace Go.Proofs.Ytmmjidhpmbcoiaa
open Go.RowKit
set_option linter.unusedVariables false
set_option linter.unusedSimpArgs false
section
variable {W : List Int} {t : Int} {n : Nat} {E : Nat → Cel} {hs : List Nat}
theorem pkC_put (ho : Ord E n hs) (C : Nat → Cel) {k : Nat} (hk : k < hs.length) : ∀ m, k < m → m ≤ hs.length → pkC E hs C m (hn hs k) = ⟨(offs E hs k : Int), (E (hn hs k)).l, true⟩
  | 0, h, _ => by omega
  | m + 1, h, h2 => by
    simp only [pkC]
    by_cases e : k = m
    · subst e; rw [up_at]
    · rw [up_ne _ _ (fun q => by
        have := ord_ne ho (show k < m by omega) (show m < hs.length by omega)
        unfold hn at q
        exact this q)]
      exact pkC_put ho C hk m (by omega) (by omega)
theorem pkC_none (C : Nat → Cel) {i : Nat} : ∀ m, (∀ j, j < m → hn hs j ≠ i) → pkC E hs C m i = C i
  | 0, _ => rfl
  | m + 1, h => by
    simp only [pkC]
    rw [up_ne _ _ (fun e => h m (by omega) e.symm)]
    exact pkC_none C m fun j hj => h j (by omega)
theorem packE_live {i : Nat} (hi : i < n) (hv : (E i).v = true) : ∃ k, k < (ordH E n).length ∧ hn (ordH E n) k = i ∧ packE E n i = ⟨(offs E (ordH E n) k : Int), (E i).l, true⟩ := by
  obtain ⟨k, hk, e⟩ := ord_at (ordH_ord E n) hi hv
  refine ⟨k, hk, e, ?_⟩
  have := pkC_put (ordH_ord E n) (fun _ => cel0) hk (ordH E n).length hk (Nat.le_refl _)
  have e' : hn (ordH E n) k = i := e
  rw [e'] at this
  exact this
theorem packE_dead {i : Nat} (hv : i < n → (E i).v = false) : packE E n i = cel0 := by
  unfold packE
  rw [pkC_none]
  intro j hj e
  obtain ⟨a1, a2⟩ := ord_get (ordH_ord E n) hj
  have e' : (ordH E n).getD j 0 = i := e
  rw [e'] at a1 a2
  rw [hv a1] at a2
  cases a2
theorem packE_v {i : Nat} (hi : i < n) : (packE E n i).v = (E i).v := by
  cases hv : (E i).v with
  | true => obtain ⟨k, _, _, e⟩ := packE_live hi hv; rw [e]
  | false => rw [packE_dead fun _ => hv]; rfl
theorem packE_l (h : hOk W.length t n E) {i : Nat} (hi : i < n) : (packE E n i).l = (E i).l := by
  cases hv : (E i).v with
  | true => obtain ⟨k, _, _, e⟩ := packE_live hi hv; rw [e]
  | false => rw [packE_dead fun _ => hv]; exact ((h.2.2.2.2.1 i hi).1 hv).2.symm
theorem packE_f (h : hOk W.length t n E) {i : Nat} (hi : i < n) : (packE E n i).f ≤ (E i).f := by
  cases hv : (E i).v with
  | true =>
    obtain ⟨k, hk, e1, e⟩ := packE_live hi hv
    rw [e]
    have := offs_le h (ordH_ord E n) k hk
    rw [e1] at this
    exact this
  | false => rw [packE_dead fun _ => hv]; have := (h.2.2.2.2.1 i hi).1 hv; show (0 : Int) ≤ _; omega
theorem offs_mono (E : Nat → Cel) (hs : List Nat) {a : Nat} : ∀ b, a ≤ b → offs E hs a ≤ offs E hs b
  | 0, h => by obtain rfl : a = 0 := by omega
               exact Nat.le_refl _
  | b + 1, h => by
    by_cases e : a = b + 1
    · subst e; exact Nat.le_refl _
    · have := offs_mono E hs b (show a ≤ b by omega)
      simp only [offs]
      omega
theorem offs_all (h : hOk W.length t n E) (ho : Ord E n hs) : (offs E hs hs.length : Int) ≤ t := by
  cases e : hs.length with
  | zero => have := h.2.1; show (0 : Int) ≤ _; omega
  | succ m => exact offs_end h ho (by omega)
theorem packed_ok (h : hOk W.length t n E) : hOk (packW W t n E).length (packT W t n E) n (packE E n) := by
  have hk := hOkB_true h
  obtain ⟨b1, b2, b3⟩ := pack_bd hk
  have hT : packT W t n E = (offs E (ordH E n) (ordH E n).length : Int) := by unfold packT; rw [if_pos hk]
  refine ⟨by rw [b1]; exact h.1, b2, by rw [b1]; exact b3, h.2.2.2.1, fun i hi => ?_, fun i j hij hj hvi hvj => ?_⟩
  · cases hv : (E i).v with
    | false => rw [packE_dead fun _ => hv]; exact ⟨fun _ => ⟨rfl, rfl⟩, fun q => by cases q⟩
    | true =>
      obtain ⟨k, hk', e1, e⟩ := packE_live hi hv
      rw [e, hT]
      have hf := (h.2.2.2.2.1 i hi).2 hv
      have hm := offs_mono E (ordH E n) (a := k + 1) _ (show k + 1 ≤ (ordH E n).length from hk')
      simp only [offs] at hm
      rw [e1] at hm
      exact ⟨fun q => (by cases q), fun _ => ⟨hf.1, by show (0 : Int) ≤ ((offs E (ordH E n) k : Nat) : Int); omega, by show ((offs E (ordH E n) k : Nat) : Int) + (E i).l ≤ _; omega⟩⟩
  · rw [packE_v (by omega)] at hvi
    rw [packE_v hj] at hvj
    obtain ⟨a, ha, ea, e1⟩ := packE_live (show i < n by omega) hvi
    obtain ⟨b, hb, eb, e2⟩ := packE_live hj hvj
    rw [e1, e2]
    have fi := (h.2.2.2.2.1 i (by omega)).2 hvi
    have fj := (h.2.2.2.2.1 j hj).2 hvj
    have hne : a ≠ b := fun q => by subst q; rw [ea] at eb; omega
    show ((offs E (ordH E n) a : Nat) : Int) + (E i).l ≤ ((offs E (ordH E n) b : Nat) : Int) ∨ ((offs E (ordH E n) b : Nat) : Int) + (E j).l ≤ ((offs E (ordH E n) a : Nat) : Int)
    by_cases q : a < b
    · left
      have hm := offs_mono E (ordH E n) (a := a + 1) b (by omega)
      simp only [offs] at hm
      rw [ea] at hm
      omega
    · right
      have hm := offs_mono E (ordH E n) (a := b + 1) a (by omega)
      simp only [offs] at hm
      rw [eb] at hm
      omega
theorem pkX_split (W : List Int) (E : Nat → Cel) (hs : List Nat) {k : Nat} : ∀ m, k ≤ m → ∃ R, pkX W E hs m = pkX W E hs k ++ R
  | 0, h => by obtain rfl : k = 0 := by omega
               exact ⟨[], by simp⟩
  | m + 1, h => by
    by_cases e : k = m + 1
    · subst e; exact ⟨[], by simp⟩
    · obtain ⟨R, q⟩ := pkX_split W E hs m (show k ≤ m by omega)
      exact ⟨R ++ wds W (E (hn hs m)), by simp only [pkX]; rw [q, List.append_assoc]⟩
theorem pkX_at (h : hOk W.length t n E) (ho : Ord E n hs) {k : Nat} (hk : k < hs.length) (R : List Int) : ((pkX W E hs hs.length ++ R).drop (offs E hs k)).take (E (hn hs k)).l.toNat = wds W (E (hn hs k)) := by
  obtain ⟨R', q⟩ := pkX_split W E hs (k := k + 1) hs.length hk
  have l1 := pkX_length h ho k (by omega)
  have l2 := wds_length h ho hk
  rw [q]
  simp only [pkX]
  rw [List.append_assoc, List.append_assoc, ← l1, List.drop_left, ← l2, List.take_left]
/-- The words under a handle are as they were. -/
theorem pack_wds (h : hOk W.length t n E) {i : Nat} (hi : i < n) (hv : (E i).v = true) : wds (packW W t n E) (packE E n i) = wds W (E i) := by
  obtain ⟨k, hk, e1, e⟩ := packE_live hi hv
  rw [e]
  unfold packW
  rw [if_pos (hOkB_true h)]
  have := pkX_at h (ordH_ord E n) hk (List.replicate (W.length - offs E (ordH E n) (ordH E n).length) 0)
  rw [e1] at this
  unfold wds at this ⊢
  simpa using this
theorem liveB_pack (i : Int) : liveB n (packE E n) i = liveB n E i := by
  unfold liveB
  by_cases h : 0 ≤ i ∧ i < n
  · rw [packE_v (by omega)]
  · by_cases h1 : 0 ≤ i
    · rw [decide_eq_false (show ¬ i < (n : Int) by omega)]; simp
    · rw [decide_eq_false h1]; simp
/-- A heap that is packed has the same arrays under the same handles. -/
theorem pack_get (h : hOk W.length t n E) (i : Int) : gO (packW W t n E) (packT W t n E) n (packE E n) i = gO W t n E i := by
  unfold gO
  rw [liveB_pack, hOkB_true (packed_ok h), hOkB_true h]
  by_cases hl : liveB n E i = true
  · obtain ⟨k, rfl, hk, hv⟩ := liveB_at hl
    rw [if_pos ⟨rfl, hl⟩, if_pos ⟨rfl, hl⟩]
    simp only [Int.toNat_natCast]
    rw [pack_wds h hk hv]
  · rw [if_neg (fun q => hl q.2), if_neg (fun q => hl q.2)]
theorem used_congr {E F : Nat → Cel} : ∀ k, (∀ i, i < k → (F i).l = (E i).l) → usedN F k = usedN E k
  | 0, _ => rfl
  | k + 1, h => by
    simp only [usedN]
    rw [used_congr k (fun i hi => h i (by omega)), h k (by omega)]
theorem used_up {E : Nat → Cel} {k : Nat} (c : Cel) : ∀ m, k < m → usedN (up E k c) m = usedN E m - (E k).l + c.l
  | 0, h => by omega
  | m + 1, h => by
    simp only [usedN]
    by_cases e : k = m
    · subst e
      rw [up_at, used_congr (E := E) k (fun i hi => by rw [up_ne _ _ (by omega)])]
      omega
    · rw [up_ne _ _ (by omega), used_up c m (by omega)]
      omega
theorem used_new {E : Nat → Cel} (m : Nat) (c : Cel) : usedN (up E m c) (m + 1) = usedN E m + c.l := by
  simp only [usedN]
  rw [up_at, used_congr (E := E) m (fun i hi => by rw [up_ne _ _ (by omega)])]
theorem used_pack (h : hOk W.length t n E) : usedN (packE E n) n = usedN E n := used_congr n fun i hi => packE_l h hi
theorem offs_sum (E : Nat → Cel) (hs : List Nat) : ∀ k, k ≤ hs.length → offs E hs k = ((hs.take k).map fun i => (E i).l.toNat).sum
  | 0, _ => by simp [offs]
  | k + 1, hk => by
    have hk' : k < hs.length := hk
    have e : (hs.take (k + 1)) = hs.take k ++ [hs.getD k 0] := by
      rw [List.take_succ_eq_append_getElem hk']
      simp [List.getD, hk']
    simp only [offs]
    rw [offs_sum E hs k (by omega), e]
    simp [hn]
theorem liv_sum (h : ∀ i, i < n → fit t (E i)) : ∀ k, k ≤ n → ((((liv E k).map fun i => (E i).l.toNat).sum : Nat) : Int) = usedN E k
  | 0, _ => by simp [liv, usedN]
  | k + 1, hk => by
    have ih := liv_sum h k (by omega)
    have hf := h k (by omega)
    rw [liv_succ]
    simp only [usedN]
    cases hv : (E k).v with
    | true =>
      have := hf.2 hv
      simp only [if_true, List.map_append, List.sum_append, List.map_cons, List.map_nil, List.sum_cons, List.sum_nil]
      omega
    | false =>
      have := hf.1 hv
      simp only [Bool.false_eq_true, if_false]
      omega
/-- Its top is how many words are in use. -/
theorem pack_top (h : hOk W.length t n E) : packT W t n E = usedN E n := by
  unfold packT
  rw [if_pos (hOkB_true h), offs_sum E _ _ (Nat.le_refl _), List.take_length]
  have hp := (ordH_ord E n).1
  rw [(hp.map fun i => (E i).l.toNat).sum_nat]
  exact liv_sum h.2.2.2.2.1 n (Nat.le_refl _)
theorem liv_pack : liv (packE E n) n = liv E n := by
  unfold liv
  apply List.filter_congr
  intro i hi
  exact packE_v (by simpa using hi)
theorem ord_pack (h : hOk W.length t n E) : ordH (packE E n) n = ordH E n := by
  refine (ord_unique (packed_ok h) (hs := ordH E n) ?_ (ordH_ord _ n)).symm
  refine ⟨by rw [liv_pack]; exact (ordH_ord E n).1, ?_⟩
  rw [List.pairwise_iff_getElem]
  intro a b ha hb hab
  have ea : hn (ordH E n) a = (ordH E n)[a] := by simp [hn, List.getD, ha]
  have eb : hn (ordH E n) b = (ordH E n)[b] := by simp [hn, List.getD, hb]
  rw [← ea, ← eb]
  have pa := pkC_put (ordH_ord E n) (fun _ => cel0) ha (ordH E n).length ha (Nat.le_refl _)
  have pb := pkC_put (ordH_ord E n) (fun _ => cel0) hb (ordH E n).length hb (Nat.le_refl _)
  show (packE E n _).f ≤ (packE E n _).f
  unfold packE
  rw [pa, pb]
  have := offs_mono E (ordH E n) b (show a ≤ b by omega)
  show ((offs E (ordH E n) a : Nat) : Int) ≤ ((offs E (ordH E n) b : Nat) : Int)
  omega
theorem hn_live {k : Nat} (hk : k < (ordH E n).length) : hn (ordH E n) k < n ∧ (E (hn (ordH E n) k)).v = true := ord_get (ordH_ord E n) hk
theorem pkX_pack (h : hOk W.length t n E) : ∀ k, k ≤ (ordH E n).length → pkX (packW W t n E) (packE E n) (ordH E n) k = pkX W E (ordH E n) k
  | 0, _ => rfl
  | k + 1, hk => by
    obtain ⟨a1, a2⟩ := hn_live (E := E) (n := n) (k := k) (by omega)
    simp only [pkX]
    rw [pkX_pack h k (by omega), pack_wds h a1 a2]
theorem offs_pack (h : hOk W.length t n E) : ∀ k, k ≤ (ordH E n).length → offs (packE E n) (ordH E n) k = offs E (ordH E n) k
  | 0, _ => rfl
  | k + 1, hk => by
    obtain ⟨a1, a2⟩ := hn_live (E := E) (n := n) (k := k) (by omega)
    simp only [offs]
    rw [offs_pack h k (by omega), packE_l h a1]
/-- Packed again it stays so. -/
theorem pack_again (h : hOk W.length t n E) : packW (packW W t n E) (packT W t n E) n (packE E n) = packW W t n E ∧ packT (packW W t n E) (packT W t n E) n (packE E n) = packT W t n E := by
  have h2 := packed_ok h
  have b := (pack_bd (hOkB_true h)).1
  constructor
  · rw [show packW (packW W t n E) (packT W t n E) n (packE E n) = pkX (packW W t n E) (packE E n) (ordH (packE E n) n) (ordH (packE E n) n).length ++ List.replicate ((packW W t n E).length - offs (packE E n) (ordH (packE E n) n) (ordH (packE E n) n).length) 0 from if_pos (hOkB_true h2)]
    rw [ord_pack h, pkX_pack h _ (Nat.le_refl _), offs_pack h _ (Nat.le_refl _), b]
    rw [show packW W t n E = pkX W E (ordH E n) (ordH E n).length ++ List.replicate (W.length - offs E (ordH E n) (ordH E n).length) 0 from if_pos (hOkB_true h)]
  · rw [pack_top h2, used_pack h, pack_top h]
/-- A cell that is dropped. -/
theorem drop_ok (h : hOk W.length t n E) (i : Int) : hOk W.length t n (dropE n E i) := by
  unfold dropE
  by_cases hl : liveB n E i = true
  · rw [if_pos hl]
    obtain ⟨k, rfl, hk, hv⟩ := liveB_at hl
    simp only [Int.toNat_natCast]
    refine ⟨h.1, h.2.1, h.2.2.1, h.2.2.2.1, fun j hj => ?_, fun a b hab hb => ?_⟩
    · by_cases e : j = k
      · subst e; rw [up_at]; exact ⟨fun _ => ⟨rfl, rfl⟩, fun q => by cases q⟩
      · rw [up_ne _ _ e]; exact h.2.2.2.2.1 j hj
    · by_cases e : a = k
      · subst e; rw [up_at]; intro q; cases q
      · by_cases e2 : b = k
        · subst e2; rw [up_at]; intro _ q; cases q
        · rw [up_ne _ _ e, up_ne _ _ e2]; exact h.2.2.2.2.2 a b hab hb
  · rw [if_neg hl]; exact h
theorem drop_used {i : Int} (hl : liveB n E i = true) : usedN (dropE n E i) n = usedN E n - (E i.toNat).l := by
  unfold dropE
  rw [if_pos hl]
  obtain ⟨k, rfl, hk, hv⟩ := liveB_at hl
  simp only [Int.toNat_natCast]
  rw [used_up _ n hk]
  show _ - _ + (0 : Int) = _
  omega
theorem drop_dead {i : Int} (hl : liveB n E i = true) : liveB n (dropE n E i) i = false := by
  unfold dropE
  rw [if_pos hl]
  obtain ⟨k, rfl, hk, hv⟩ := liveB_at hl
  unfold liveB
  simp only [Int.toNat_natCast]
  rw [up_at]
  simp [cel0]
theorem get_dead {i : Int} (hl : liveB n E i = false) : gO W t n E i = none := by
  unfold gO
  rw [if_neg (fun q => by rw [hl] at q; exact absurd q.2 (by decide))]
theorem get_bad {i : Int} (hl : hOkB W.length t n E = false) : gO W t n E i = none := by
  unfold gO
  rw [if_neg (fun q => by rw [hl] at q; exact absurd q.1 (by decide))]
/-- All others are got as before. -/
theorem drop_get (h : hOk W.length t n E) {i : Int} {k : Nat} (hki : (k : Int) ≠ i) : gO W t n (dropE n E i) k = gO W t n E k := by
  unfold gO
  rw [hOkB_true (drop_ok h i), hOkB_true h]
  have e : dropE n E i k = E k := by
    unfold dropE
    by_cases hl : liveB n E i = true
    · rw [if_pos hl]
      obtain ⟨j, rfl, hj, hv⟩ := liveB_at hl
      simp only [Int.toNat_natCast]
      exact up_ne _ _ (by omega)
    · rw [if_neg hl]
  have e2 : liveB n (dropE n E i) (k : Int) = liveB n E (k : Int) := by
    unfold liveB
    simp only [Int.toNat_natCast]
    rw [e]
  rw [e2]
  simp only [Int.toNat_natCast]
  rw [e]
end
/-- What words of an array are. -/
theorem arrOf_words {s d : List Int} (h : arrOk s d = true) : arrOf (wsA s d) = some (s, d) := by
  have e0 : (wsA s d).getD 0 0 = (s.length : Int) := by simp [wsA]
  have e1 : (wsA s d).length = 1 + s.length + d.length := wsA_len s d
  unfold arrOf
  rw [e0, if_pos (by omega)]
  have d1 : (wsA s d).drop 1 = s ++ d := by simp [wsA]
  have d2 : (wsA s d).drop (1 + s.length) = d := by rw [← List.drop_drop, d1]; simp
  simp only [Int.toNat_natCast]
  rw [d1, d2]
  simp [h]
theorem getD_ext {l m : List Int} (hl : l.length = m.length) (h : ∀ i, i < l.length → l.getD i 0 = m.getD i 0) : l = m := by
  apply List.ext_getElem hl
  intro i h1 h2
  have := h i h1
  rw [List.getD_eq_getElem?_getD, List.getD_eq_getElem?_getD, List.getElem?_eq_getElem h1, List.getElem?_eq_getElem h2] at this
  simpa using this
theorem wds_getD {W : List Int} {c : Cel} {i : Nat} (hi : i < c.l.toNat) : (wds W c).getD i 0 = W.getD (c.f.toNat + i) 0 := by
  unfold wds
  rw [List.getD_eq_getElem?_getD, List.getD_eq_getElem?_getD, List.getElem?_take, if_pos hi, List.getElem?_drop]
section
variable {W : List Int} {t : Int} {n : Nat} {E : Nat → Cel} {ws : List Int}
theorem q_ok (h : hOk W.length t n E) : hOk (qW W t n E ws).length (qT W t n E ws) n (qE W t n E ws) := by
  unfold qW qT qE
  split
  · exact h
  · exact packed_ok h
theorem q_get (h : hOk W.length t n E) (i : Int) : gO (qW W t n E ws) (qT W t n E ws) n (qE W t n E ws) i = gO W t n E i := by
  unfold qW qT qE
  split
  · rfl
  · exact pack_get h i
theorem q_used (h : hOk W.length t n E) : usedN (qE W t n E ws) n = usedN E n := by
  unfold qE
  split
  · rfl
  · exact used_pack h
theorem q_live (i : Int) : liveB n (qE W t n E ws) i = liveB n E i := by
  unfold qE
  split
  · rfl
  · exact liveB_pack i
theorem lead_at (p : Nat → Bool) : ∀ b, lead p b < b → p (lead p b) = false
  | b, h => by
    apply Classical.byContradiction
    intro hc
    have hp : p (lead p b) = true := by simpa using hc
    have q : ∀ m, m ≤ b → (∀ j, j < m → p j = true) ∨ ∃ j, j < m ∧ p j = false ∧ ∀ i, i < j → p i = true := by
      intro m
      induction m with
      | zero => intro _; exact .inl fun j hj => absurd hj (by omega)
      | succ m ih =>
        intro hm
        rcases ih (by omega) with g | ⟨j, h1, h2, h3⟩
        · cases e : p m with
          | true =>
            refine .inl fun j hj => ?_
            by_cases ej : j = m
            · rw [ej]; exact e
            · exact g j (by omega)
          | false => exact .inr ⟨m, by omega, e, g⟩
        · exact .inr ⟨j, by omega, h2, h3⟩
    rcases q b (Nat.le_refl _) with g | ⟨j, h1, h2, h3⟩
    · have := lead_eq (Nat.le_refl b) g (.inl rfl)
      omega
    · have := lead_eq (p := p) (b := b) (m := j) (by omega) h3 (.inr h2)
      rw [this, h2] at hp
      cases hp
/-- What it is put into, in numbers. -/
theorem put_bd (h : hOk W.length t n E) (hb : putB W t n E ws = true) : putH W t n E ws ≤ n ∧ putH W t n E ws < 200 ∧ (putH W t n E ws < n → (qE W t n E ws (putH W t n E ws)).v = false) ∧ 0 ≤ qT W t n E ws ∧ qT W t n E ws + ws.length ≤ (qW W t n E ws).length := by
  unfold putB at hb
  simp only [Bool.and_eq_true, decide_eq_true_eq] at hb
  refine ⟨lead_le _ n, hb.2, fun hl => ?_, (q_ok h).2.1, by omega⟩
  unfold putH at hl ⊢
  exact lead_at _ n hl
theorem put_len (h : hOk W.length t n E) (hb : putB W t n E ws = true) : (putW W t n E ws).length = (qW W t n E ws).length := by
  unfold putW
  exact pst_len _ _ _ _
theorem put_at (h : hOk W.length t n E) (hb : putB W t n E ws = true) (i : Nat) : (putW W t n E ws).getD i 0 = if i < (qT W t n E ws).toNat then (qW W t n E ws).getD i 0 else if i < (qT W t n E ws).toNat + ws.length then ws.getD (i - (qT W t n E ws).toNat) 0 else (qW W t n E ws).getD i 0 := by
  have b := put_bd h hb
  unfold putW
  rw [pst_paste _ _ _ _ (Nat.le_refl _) (by omega)]
  exact paste_at (by omega) (Nat.le_refl _) i
theorem put_old (h : hOk W.length t n E) (hb : putB W t n E ws = true) {c : Cel} (h1 : 0 ≤ c.f) (h2 : c.f + c.l ≤ qT W t n E ws) : wds (putW W t n E ws) c = wds (qW W t n E ws) c := by
  have b := put_bd h hb
  have hl := put_len h hb
  have e : (wds (putW W t n E ws) c).length = (wds (qW W t n E ws) c).length := by unfold wds; simp [hl]
  refine getD_ext e fun i hi => ?_
  have hi' : i < c.l.toNat := by unfold wds at hi; rw [List.length_take] at hi; omega
  rw [wds_getD hi', wds_getD hi', put_at h hb, if_pos (by omega)]
theorem put_new (h : hOk W.length t n E) (hb : putB W t n E ws = true) : wds (putW W t n E ws) ⟨qT W t n E ws, ws.length, true⟩ = ws := by
  have b := put_bd h hb
  have hl := put_len h hb
  have e : (wds (putW W t n E ws) ⟨qT W t n E ws, ws.length, true⟩).length = ws.length := by unfold wds; simp [hl]; omega
  refine getD_ext e fun i hi => ?_
  have hi' : i < ws.length := by omega
  have g1 : (wds (putW W t n E ws) ⟨qT W t n E ws, ws.length, true⟩).getD i 0 = (putW W t n E ws).getD ((qT W t n E ws).toNat + i) 0 := wds_getD (by simpa using hi')
  rw [g1, put_at h hb, if_neg (by omega), if_pos (by omega), Nat.add_sub_cancel_left]
theorem put_N (hb : hOk W.length t n E) : n ≤ putN W t n E ws ∧ putN W t n E ws ≤ n + 1 ∧ (putN W t n E ws = n + 1 → putH W t n E ws = n) ∧ putH W t n E ws < putN W t n E ws := by
  have := lead_le (fun i => (qE W t n E ws i).v) n
  unfold putN
  have e : putH W t n E ws = lead (fun i => (qE W t n E ws i).v) n := rfl
  split <;> refine ⟨by omega, by omega, fun q => by omega, by omega⟩
theorem put_E {i : Nat} : putE W t n E ws i = if i = putH W t n E ws then ⟨qT W t n E ws, ws.length, true⟩ else qE W t n E ws i := rfl
theorem put_ok (h : hOk W.length t n E) (hb : putB W t n E ws = true) (hw : 0 < ws.length) : hOk (putW W t n E ws).length (putT W t n E ws) (putN W t n E ws) (putE W t n E ws) := by
  have b := put_bd h hb
  have hl := put_len h hb
  have q := q_ok (ws := ws) h
  have N := put_N (ws := ws) h
  have hT : putT W t n E ws = qT W t n E ws + ws.length := rfl
  have f0 : ∀ i, i < putN W t n E ws → i ≠ putH W t n E ws → i < n := fun i h1 h2 => by omega
  refine ⟨by rw [hl]; exact q.1, by omega, by rw [hl]; omega, by have := q.2.2.2.1; omega, fun i hi => ?_, fun i j hij hj => ?_⟩
  · rw [put_E]
    split
    · exact ⟨fun r => (by cases r), fun _ => ⟨by show (1 : Int) ≤ ws.length; omega, b.2.2.2.1, by show qT W t n E ws + ws.length ≤ _; omega⟩⟩
    · rename_i ne
      have r := q.2.2.2.2.1 i (f0 i hi ne)
      exact ⟨r.1, fun v => ⟨(r.2 v).1, (r.2 v).2.1, by have := (r.2 v).2.2; omega⟩⟩
  · rw [put_E, put_E]
    by_cases ei : i = putH W t n E ws
    · rw [if_pos ei, if_neg (by omega)]
      intro _ hv
      have r := (q.2.2.2.2.1 j (f0 j hj (by omega))).2 hv
      right
      show _ ≤ qT W t n E ws
      omega
    · rw [if_neg ei]
      by_cases ej : j = putH W t n E ws
      · rw [if_pos ej]
        intro hv _
        have r := (q.2.2.2.2.1 i (f0 i (by omega) ei)).2 hv
        left
        show _ ≤ qT W t n E ws
        omega
      · rw [if_neg ej]
        exact q.2.2.2.2.2 i j hij (f0 j hj ej)
theorem put_used (h : hOk W.length t n E) (hb : putB W t n E ws = true) : usedN (putE W t n E ws) (putN W t n E ws) = usedN E n + ws.length := by
  have b := put_bd h hb
  have q := q_ok (ws := ws) h
  unfold putN putE
  by_cases e : putH W t n E ws = n
  · rw [if_pos e, e, used_new, q_used h]
  · rw [if_neg e, used_up _ n (by omega), q_used h]
    have := ((q.2.2.2.2.1 (putH W t n E ws) (by omega)).1 (b.2.2.1 (by omega))).2
    show _ - _ + (ws.length : Int) = _
    omega
theorem put_get (h : hOk W.length t n E) (hb : putB W t n E ws = true) (hw : 0 < ws.length) {k : Nat} (hk : k < n) (hne : k ≠ putH W t n E ws) : gO (putW W t n E ws) (putT W t n E ws) (putN W t n E ws) (putE W t n E ws) k = gO W t n E k := by
  rw [← q_get (ws := ws) h k]
  have N := put_N (ws := ws) h
  have q := q_ok (ws := ws) h
  have e : putE W t n E ws k = qE W t n E ws k := by rw [put_E, if_neg hne]
  have e2 : liveB (putN W t n E ws) (putE W t n E ws) (k : Int) = liveB n (qE W t n E ws) (k : Int) := by
    unfold liveB
    simp only [Int.toNat_natCast]
    rw [e, decide_eq_true (show (k : Int) < (n : Int) by omega), decide_eq_true (show (k : Int) < (putN W t n E ws : Int) by omega)]
  unfold gO
  rw [hOkB_true (put_ok h hb hw), hOkB_true q, e2]
  simp only [Int.toNat_natCast]
  by_cases hl : liveB n (qE W t n E ws) (k : Int) = true
  · rw [if_pos ⟨trivial, hl⟩, if_pos ⟨trivial, hl⟩, e]
    have hv : (qE W t n E ws k).v = true := by
      obtain ⟨j, ej, _, hv⟩ := liveB_at hl
      obtain rfl : k = j := by omega
      exact hv
    have r := (q.2.2.2.2.1 k hk).2 hv
    rw [put_old h hb r.2.1 r.2.2]
  · rw [if_neg (fun p => hl p.2), if_neg (fun p => hl p.2)]
theorem put_got (h : hOk W.length t n E) (hb : putB W t n E ws = true) (hw : 0 < ws.length) : gO (putW W t n E ws) (putT W t n E ws) (putN W t n E ws) (putE W t n E ws) (putH W t n E ws : Int) = arrOf ws := by
  have N := put_N (ws := ws) h
  have e : putE W t n E ws (putH W t n E ws) = ⟨qT W t n E ws, ws.length, true⟩ := by rw [put_E, if_pos rfl]
  have e2 : liveB (putN W t n E ws) (putE W t n E ws) (putH W t n E ws : Int) = true := by
    unfold liveB
    simp only [Int.toNat_natCast]
    rw [e, decide_eq_true (show ((putH W t n E ws : Nat) : Int) < (putN W t n E ws : Int) by omega)]
    simp
  unfold gO
  rw [if_pos ⟨hOkB_true (put_ok h hb hw), e2⟩]
  simp only [Int.toNat_natCast]
  rw [e, put_new h hb]
/-- The handle was free. -/
theorem put_free (h : hOk W.length t n E) (hb : putB W t n E ws = true) : liveB n E (putH W t n E ws : Int) = false := by
  have b := put_bd h hb
  rw [← q_live (W := W) (t := t) (ws := ws)]
  unfold liveB
  simp only [Int.toNat_natCast]
  by_cases e : putH W t n E ws < n
  · rw [b.2.2.1 e]; simp
  · rw [decide_eq_false (show ¬ ((putH W t n E ws : Nat) : Int) < (n : Int) by omega)]; simp
end
end Go.Proofs.Ytmmjidhpmbcoiaa
namespace Go.Proofs.Ytmmjidhpmbcoiaa
open Go.RowKit
set_option linter.unusedVariables false
set_option linter.unusedSimpArgs false
set_option maxRecDepth 20000 in
set_option maxHeartbeats 4000000 in
theorem hasRoom_impl {xa za : Option Addr} {m xc n zc : Nat} {t : Int} (l : Nat) (w : World) (h : 0 ≤ t ∧ t ≤ m) (hm : m ≤ 6000) :
    Calls Try.prog 81 #[.agg #[.slice xa m xc, .int .i64 t, .slice za n zc], .int .i64 (l : Int)] w fun e w' => e = .returned (.bool (decide ((l : Int) ≤ (m : Int) - t))) ∧ Below w.heap.size w w' := by
  have hw : IntKind.i64.wrap ((m : Int) - t) = (m : Int) - t := by rw [IntKind.wrap_i64]; omega
  go_enter Try.func81, Try.ntmps81
  go_wp2
  go_ret
  exact ⟨rfl, bAlloc (Below.refl _ _) _⟩
set_option maxRecDepth 20000 in
set_option maxHeartbeats 8000000 in
/-- slices.Index of the zero cell in right cells: the first that is not in use, or -1. -/
theorem index_impl {w : World} {ca : Option Addr} {n cc : Nat} {E : Nat → Cel} (h : CsA w ca n E) (hf : ∀ i, i < n → (E i).v = false → E i = cel0) (hn : n ≤ 1048576) :
    Calls Try.prog 104 #[.slice ca n cc, .agg #[.int .i64 0, .int .i64 0, .bool false]] w fun e w' => e = .returned (.int .i64 (if lead (fun i => (E i).v) n = n then -1 else (lead (fun i => (E i).v) n : Int))) ∧ Below w.heap.size w w' := by
  have FIN : Hid (∀ k, k ≤ n → (∀ j, j < k → (E j).v = true) → (k = n ∨ (E k).v = false) → lead (fun i => (E i).v) n = k) := fun k h1 h2 h3 => lead_eq h1 h2 h3
  generalize lead (fun i => (E i).v) n = Q at *
  obtain ⟨P, hP⟩ : ∃ P : Int, P = if Q = n then -1 else (Q : Int) := ⟨_, rfl⟩
  rw [← hP]
  have PN : Hid (Q = n → P = -1) := fun h => by rw [hP, if_pos h]
  have PK : Hid (∀ k, Q = k → k < n → P = k) := fun k h h2 => by rw [hP, if_neg (by omega), h]
  clear hP
  have H : Hid (CsA w ca n E) := h
  have HF : Hid (∀ i, i < n → (E i).v = false → E i = cel0) := hf
  clear h hf
  go_enter Try.func104, Try.ntmps104
  go_wp2_with fail
  generalize hV : w.alloc (.cells #[.int .i64 0, .int .i64 0, .bool false] 47) = V
  have BV : Hid (Below w.heap.size w V) := by rw [← hV]; exact bAlloc (Below.refl _ _) _
  have XV : Hid (Box3 V w.heap.size (.int .i64 0) (.int .i64 0) (.bool false) 47) := by rw [← hV]; exact box3_new _ _ _ _ _
  clear hV
  go_loopw [8] (fun i w' => ∃ k : Nat, k ≤ n ∧ i = .int .i64 (k : Int) ∧ (∀ j, j < k → (E j).v = true) ∧ Below V.heap.size V w') (fun i _ => n - (intOf i).toNat)
  case atStart => exact ⟨0, by omega, rfl, fun j hj => absurd hj (by omega), Below.refl _ _⟩
  case round =>
    obtain ⟨k, hk, rfl, hA, hb⟩ := hrel
    have HA : Hid (∀ j, j < k → (E j).v = true) := hA
    have HB : Hid (Below V.heap.size V wr) := hb
    clear hA hb
    by_cases hlt : (k : Int) < (n : Int)
    · have L : k < n := by omega
      obtain ⟨o, off, rfl, ho, p0, p1, p2⟩ := (H.out.keep (bTrans BV.out HB.out)).at L
      clear ho
      have b0 := (XV.out.keep HB.out).c0
      have b1 := (XV.out.keep HB.out).c1
      have b2 := (XV.out.keep HB.out).c2
      cases hv : (E k).v
      · have hc := HF.out k L hv
        have QV : Hid (Q = k) := FIN.out k hk HA.out (.inr hv)
        rw [hc] at p0 p1 p2
        simp only [cel0] at p0 p1 p2
        clear hv hc FIN
        go_wp2_with fail
        go_region
        all_goals
          go_wp2
          go_ret
          exact ⟨by rw [PK.out k QV.out L]; rfl, bTrans BV.out HB.out.drew⟩
      · rw [hv] at p2
        have NX : Hid (∀ j, j < k + 1 → (E j).v = true) := fun j hj => by
          by_cases e : j = k
          · rw [e]; exact hv
          · exact HA.out j (by omega)
        clear hv FIN
        generalize (E k).f = ef at *
        generalize (E k).l = el at *
        go_wp2_with fail
        go_region
        all_goals
          go_wp2
          go_roundw
          case rel => exact ⟨k + 1, by omega, by go_num, NX.out, HB.out.drew⟩
          case measure => simp [intOf]; omega
    · obtain rfl : k = n := by omega
      have QV : Hid (Q = k) := FIN.out k hk HA.out (.inl rfl)
      go_wp2
      go_ret
      exact ⟨by rw [PN.out QV.out]; rfl, bTrans BV.out HB.out⟩
set_option maxRecDepth 20000 in
set_option maxHeartbeats 8000000 in
/-- The first handle that is free, or the one behind all. -/
theorem free_impl {w : World} {ca : Option Addr} {n cc : Nat} {E : Nat → Cel} (h : CsA w ca n E) (hf : ∀ i, i < n → (E i).v = false → E i = cel0) (hn : n ≤ 1048576) :
    Calls Try.prog 82 #[.slice ca n cc] w fun e w' => e = .returned (.int .i64 (lead (fun i => (E i).v) n : Int)) ∧ Below w.heap.size w w' := by
  have CI : Hid (∀ W, Below w.heap.size w W → Calls Try.prog 104 #[.slice ca n cc, .agg #[.int .i64 0, .int .i64 0, .bool false]] W fun e w' => e = .returned (.int .i64 (if lead (fun i => (E i).v) n = n then -1 else (lead (fun i => (E i).v) n : Int))) ∧ Below W.heap.size W w') := fun W hb => index_impl (h.keep hb) hf hn
  have hle := lead_le (fun i => (E i).v) n
  generalize lead (fun i => (E i).v) n = Q at *
  clear h hf
  by_cases hq : Q = n
  · have CJ : Hid (∀ W, Below w.heap.size w W → Calls Try.prog 104 #[.slice ca n cc, .agg #[.int .i64 0, .int .i64 0, .bool false]] W fun e w' => e = .returned (.int .i64 (-1)) ∧ Below W.heap.size W w') := fun W hb => by
      have := CI.out W hb
      rw [if_pos hq] at this
      exact this
    clear CI
    subst hq
    go_enter Try.func82, Try.ntmps82
    go_wp2_with fail
    have hb1 : Below w.heap.size w (w.alloc (.cells #[.int .i64 0, .int .i64 0, .bool false] 47)) := bAlloc (Below.refl _ _) _
    refine (CJ.out _ hb1).mono ?_
    rintro r w2 ⟨rfl, hb⟩
    have B2 : Hid (Below w.heap.size w w2) := bTrans hb1 hb
    clear hb hb1
    go_wp2
    go_ret
    exact ⟨rfl, B2.out⟩
  · have CJ : Hid (∀ W, Below w.heap.size w W → Calls Try.prog 104 #[.slice ca n cc, .agg #[.int .i64 0, .int .i64 0, .bool false]] W fun e w' => e = .returned (.int .i64 (Q : Int)) ∧ Below W.heap.size W w') := fun W hb => by
      have := CI.out W hb
      rw [if_neg hq] at this
      exact this
    clear CI
    have q0 : (Q : Int) ≥ 0 := by omega
    go_enter Try.func82, Try.ntmps82
    go_wp2_with fail
    have hb1 : Below w.heap.size w (w.alloc (.cells #[.int .i64 0, .int .i64 0, .bool false] 47)) := bAlloc (Below.refl _ _) _
    refine (CJ.out _ hb1).mono ?_
    rintro r w2 ⟨rfl, hb⟩
    have B2 : Hid (Below w.heap.size w w2) := bTrans hb1 hb
    clear hb hb1
    go_wp2
    go_ret
    exact ⟨rfl, B2.out⟩
/-- Words copied into a heap's words. -/
theorem HB.copy {L g : Nat} {F : Nat → Prop} {w : World} {xa pa : Option Addr} {xc T : Nat} {z : Value} {W ws : List Int} {t : Int} {n : Nat} {E : Nat → Cel} (h : HB L F g w (.slice xa W.length xc) z W t n E) (hs : Ints w pa ws) (hT : T + ws.length ≤ W.length) (h1 : 0 < ws.length) (pc : Nat) :
    ∃ gw off nrow, xa = some ⟨gw, off, none⟩ ∧ L ≤ gw ∧ g ≠ gw ∧ (∀ k, F k → k ≠ gw) ∧
      (∀ V, (Instr.slice 25 (.slice xa W.length xc) (some (.int .i64 (T : Int))) none none).run Try.prog V = .ok (.slice (some ⟨gw, off + T, none⟩) (W.length - T) (xc - T)) V) ∧
      (∀ V : World, V.heap = w.heap → ∀ ty, (Builtin.copy_ #[25, 25] ty #[.slice (some ⟨gw, off + T, none⟩) (W.length - T) (xc - T), .slice pa ws.length pc]).run Try.prog V = .ok (.int .i64 (ws.length : Int)) (V.setRow gw nrow)) ∧
      HB L F g (w.setRow gw nrow) (.slice xa W.length xc) z (pst W T ws ws.length) t n E := by
  obtain ⟨B1, C1, B2, C2, hb, h2, h3, h4, h5, hF, h6, h7⟩ := h
  obtain ⟨a, c, e, hle, h6⟩ := h6
  cases e
  rcases h6 with rfl | ⟨gw, off, cur, ty, rfl, q1, q2, hg, hc⟩
  · exfalso
    have hz : ([] : List Int).length = 0 := rfl
    rw [hz] at hT
    omega
  have hmin : min ws.length (W.length - T) = ws.length := by omega
  have hsz : off + W.length ≤ cur.size := by
    have := (Array.getElem?_eq_some_iff.1 (hc (W.length - 1) (by omega))).1
    omega
  have hw := setRow_win w gw (cur.toList.take (off + T) ++ ws.map (Value.int .i64) ++ cur.toList.drop (off + T + ws.length)).toArray
  have hss := hw.size
  refine ⟨gw, off, (cur.toList.take (off + T) ++ ws.map (Value.int .i64) ++ cur.toList.drop (off + T + ws.length)).toArray, rfl, by omega, by omega, fun k hk => by have := hF k hk; omega, fun V => ?_, fun V hV ty' => ?_, ?_⟩
  · rw [run_from (by omega) hle V, if_neg (by omega)]
    simp [Addr.add]
  · rcases hs with rfl | ⟨b, o, rfl, hbo, hcs⟩
    · simp at h1
    · have hgV : V.heap[gw]? = some (.cells cur ty (0, 0)) := by rw [hV]; exact hg
      have hcV : ∀ j, j < ws.length → V.cell? ⟨b, o + j, none⟩ = some (.int .i64 (ws.getD j 0)) := fun j hj => by
        have := hcs j hj
        simp only [World.cell?, hV] at this ⊢
        exact this
      have q := run_copy_row Try.prog V 25 25 ty' 3 gw (off + T) (W.length - T) (xc - T) ⟨b, o, none⟩ ws.length pc cur ty (ws.map (Value.int .i64)) Try.underlying25 int_size hgV (by simp [hmin]) (ints_src hcV) (by simp; omega) (by intro v hv; obtain ⟨x, _, rfl⟩ := List.mem_map.1 hv; rfl)
      rw [q]
      simp [goInt]
  · have hp : pst W T ws ws.length = paste W T ws ws.length := pst_paste W ws T _ (Nat.le_refl _) hT
    have hpl : (paste W T ws ws.length).length = W.length := paste_length hT (Nat.le_refl _)
    have hs := setRow_blk hg (cs := (cur.toList.take (off + T) ++ ws.map (Value.int .i64) ++ cur.toList.drop (off + T + ws.length)).toArray)
    refine ⟨B1, C1, B2, C2, hb.win hw (by omega), by omega, h3, h4, h5, fun k hk => by have := hF k hk; omega, ⟨_, _, by rw [hp, hpl], by rw [hp, hpl]; exact hle, .inr ⟨gw, off, _, ty, rfl, q1, q2, hs, fun j hj => ?_⟩⟩, h7.win hw (by omega)⟩
    rw [hp] at hj ⊢
    rw [hpl] at hj
    have l1 : (cur.toList.take (off + T)).length = off + T := by simp; omega
    have l2 : (ws.map (Value.int .i64)).length = ws.length := by simp
    rw [paste_at hT (Nat.le_refl _) j]
    simp only [List.getElem?_toArray, List.append_assoc]
    by_cases a1 : j < T
    · rw [if_pos a1, List.getElem?_append_left (by omega), List.getElem?_take_of_lt (by omega)]
      simpa using hc j hj
    · rw [if_neg a1, List.getElem?_append_right (by omega), l1]
      by_cases a2 : j < T + ws.length
      · rw [if_pos a2, List.getElem?_append_left (by omega), List.getElem?_map, show off + j - (off + T) = j - T by omega, List.getElem?_eq_getElem (by omega)]
        simp [List.getD_eq_getElem?_getD, List.getElem?_eq_getElem (show j - T < ws.length by omega)]
      · rw [if_neg a2, List.getElem?_append_right (by omega), l2, List.getElem?_drop, show off + T + ws.length + (off + j - (off + T) - ws.length) = off + j by omega]
        simpa using hc j hj
end Go.Proofs.Ytmmjidhpmbcoiaa
namespace Go.Proofs.Ytmmjidhpmbcoiaa
open Go.RowKit
set_option linter.unusedVariables false
set_option linter.unusedSimpArgs false
theorem app_ty (ty : TypeId) (za zb : Option Addr) (n c m d : Nat) (w : World) : (Builtin.append_ #[96, 96] ty #[.slice za n c, .slice zb m d]).run Try.prog w = (Builtin.append_ #[26, 26] ty #[.slice za n c, .slice zb m d]).run Try.prog w := by
  simp [Builtin.append_, run_underlying Try.underlying96, run_underlying Try.underlying26]
/-- What with answers, at a heap in a box at g: the cells with one set, or with one more. -/
def WithPost (L : Nat) (F : Nat → Prop) (g : Nat) (w : World) (x : Value) (za : Option Addr) (zc : Nat) (W : List Int) (t : Int) (n n' : Nat) (E' : Nat → Cel) (e : Ending) (w' : World) : Prop :=
  ∃ a' c', e = .returned (.slice a' n' c') ∧ Box3 w' g x (.int .i64 t) (.slice za n zc) 28 ∧ HB L F g (w'.setCell ⟨g, 2, none⟩ (.slice a' n' c')) x (.slice a' n' c') W t n' E' ∧ Below L w w' ∧ ∀ k, F k → w'.heap[k]? = w.heap[k]?
set_option maxRecDepth 20000 in
set_option maxHeartbeats 8000000 in
theorem with_grow {L g : Nat} {F : Nat → Prop} {w : World} {x : Value} {za : Option Addr} {zc : Nat} {W : List Int} {t : Int} {n : Nat} {E : Nat → Cel} (h : HB L F g w x (.slice za n zc) W t n E) (hc : ZCap w (.slice za n zc) n) (hn : n ≤ 200) (hL : L ≤ w.heap.size) (c : Cel) :
    Calls Try.prog 83 #[.slice za n zc, .int .i64 (n : Int), .agg #[.int .i64 c.f, .int .i64 c.l, .bool c.v]] w fun e w' => WithPost L F g w x za zc W t n (n + 1) (up E n c) e w' := by
  have BV : Below w.heap.size w (w.alloc (.cells #[.int .i64 c.f, .int .i64 c.l, .bool c.v] 47)) := bAlloc (Below.refl _ _) _
  have XV := box3_new w (.int .i64 c.f) (.int .i64 c.l) (.bool c.v) 47
  obtain ⟨V, hV⟩ : ∃ V, V = w.alloc (.cells #[.int .i64 c.f, .int .i64 c.l, .bool c.v] 47) := ⟨_, rfl⟩
  rw [← hV] at BV XV
  obtain ⟨a', c', w', hr, hbx, hh, hbl, hkk⟩ := (h.keep BV).grow (hc.keep BV) (by omega) (Nat.le_trans hL BV.size) c
  have R : Hid (∀ ty, (Builtin.append_ #[26, 26] ty #[.slice za n zc, .slice (some ⟨V.heap.size, 0, none⟩) 1 1]).run Try.prog (V.alloc (.cells #[.int .i64 c.f, .int .i64 c.l, .bool c.v] 47)) = .ok (.slice a' (n + 1) c') w') := hr
  have POST : Hid (WithPost L F g w x za zc W t n (n + 1) (up E n c) (.returned (.slice a' (n + 1) c')) w') := ⟨a', c', rfl, hbx, hh, (BV.mono hL).trans hbl, fun k hk => (hkk k hk).trans (BV.block k (h.free k hk).1)⟩
  have v0 := XV.c0
  have v1 := XV.c1
  have v2 := XV.c2
  have keb : ((n : Int) == (n : Int)) = true := by simp
  clear hr hbx hh hbl hkk BV XV h hc
  obtain ⟨f, l, b⟩ := c
  simp only at R v0 v1 v2 hV
  go_enter Try.func83, Try.ntmps83
  have hsz : V.heap.size = w.heap.size + 1 := by rw [hV]; simp
  rw [hsz, hV] at R
  rw [hV] at v0 v1 v2
  go_wp2_with (at_builtin; refine wpList_append_ty rfl _ _ 96 96 rfl _ _ _ rfl rfl ((app_ty _ _ _ _ _ _ _ _).trans (R.out _)) ?_)
  go_ret
  exact POST.out
theorem HB.turn {L g gc : Nat} {F : Nat → Prop} {w w' : World} {x : Value} {zc : Nat} {W : List Int} {t : Int} {n : Nat} {E E' : Nat → Cel} (h : HB L F g w x (.slice (some ⟨gc, 0, none⟩) n zc) W t n E) (h0 : 0 < n) (hb : CBlk w' gc n E') (hw : Win gc (gc + 1) w w') :
    HB L F g w' x (.slice (some ⟨gc, 0, none⟩) n zc) W t n E' ∧ Below L w w' ∧ ∀ k, F k → w'.heap[k]? = w.heap[k]? := by
  obtain ⟨B1, C1, B2, C2, h1, h2, h3, h4, h5, hF, h6, h7⟩ := h
  obtain ⟨a, c, e, hle, h7⟩ := h7
  cases e
  rcases h7 with h7 | ⟨gc', e, q1, q2, _⟩
  · omega
  cases e
  have hs := hw.size
  exact ⟨⟨B1, C1, B2, C2, h1.win hw (by omega), by omega, h3, h4, h5, fun k hk => by have := hF k hk; omega, h6.win hw (by omega), ⟨_, _, rfl, hle, .inr ⟨gc, rfl, q1, q2, hb⟩⟩⟩, hw.below (by omega) (by have := h1.lt; omega), fun k hk => hw.block k (hF k hk).1 (by have := hF k hk; omega)⟩
theorem HB.same2 {L g : Nat} {F : Nat → Prop} {w : World} {x z : Value} {W : List Int} {t : Int} {n : Nat} {E : Nat → Cel} (h : HB L F g w x z W t n E) : HB L F g (w.setCell ⟨g, 2, none⟩ z) x z W t n E := by
  obtain ⟨B1, C1, B2, C2, h1, h2, h3, h4, h5, hF, h6, h7⟩ := h
  have hw := win_setCell w g 2 z
  have hs := hw.size
  exact ⟨B1, C1, B2, C2, h1.set2 _, by omega, h3, h4, h5, fun k hk => by have := hF k hk; omega, h6.win hw (by omega), h7.win hw (by omega)⟩
/-- with, at a heap in a box. -/
theorem with_any {L g : Nat} {F : Nat → Prop} {w : World} {x : Value} {za : Option Addr} {zc : Nat} {W : List Int} {t : Int} {n : Nat} {E : Nat → Cel} (h : HB L F g w x (.slice za n zc) W t n E) (hc : ZCap w (.slice za n zc) n) (hn : n ≤ 200) (hL : L ≤ w.heap.size) (k : Nat) (hk : k ≤ n) (c : Cel) :
    Calls Try.prog 83 #[.slice za n zc, .int .i64 (k : Int), .agg #[.int .i64 c.f, .int .i64 c.l, .bool c.v]] w fun e w' => WithPost L F g w x za zc W t n (if k = n then n + 1 else n) (up E k c) e w' := by
  by_cases e : k = n
  · subst e
    rw [if_pos rfl]
    exact with_grow h hc hn hL c
  · rw [if_neg e]
    obtain ⟨gc, rfl, _, _, cb, _⟩ := h.cell (k := k) (by omega)
    refine (with_impl cb (by omega) c (by omega)).mono ?_
    rintro e' w' ⟨rfl, hb, hw⟩
    obtain ⟨q1, q2, q3⟩ := h.turn (by omega) hb hw
    exact ⟨_, _, rfl, q1.box, q1.same2, q2, q3⟩
set_option maxRecDepth 20000 in
set_option maxHeartbeats 8000000 in
/-- The deferred function of put, where the array was put: nothing turns. -/
theorem undo_done {a b c : Nat} (u : FrameMode) (w : World) (hd : w.cell? ⟨a, 0, none⟩ = some (.bool true)) :
    CallsD Try.prog 79 #[.pointer (some ⟨a, 0, none⟩), .pointer (some ⟨b, 0, none⟩), .pointer (some ⟨c, 0, none⟩)] u w fun e u' w' => u' = u ∧ e = .returned (.tuple #[]) ∧ w' = w := by
  go_enter_d Try.func79, Try.ntmps79
  go_wp2
  go_end0
  exact ⟨rfl, rfl⟩
set_option maxRecDepth 20000 in
set_option maxHeartbeats 8000000 in
/-- The deferred function of put, where it was not: the heap is what it was. -/
theorem undo_back {a b c g : Nat} {x y z x0 y0 z0 : Value} {xa za : Option Addr} {xm xc zn zc : Nat} {t : Int} (u : FrameMode) (w : World) (hd : w.cell? ⟨a, 0, none⟩ = some (.bool false)) (hb : Box3 w b (.slice xa xm xc) (.int .i64 t) (.slice za zn zc) 28) (hc : w.cell? ⟨c, 0, none⟩ = some (.pointer (some ⟨g, 0, none⟩))) (hg : Box3 w g x0 y0 z0 28) :
    CallsD Try.prog 79 #[.pointer (some ⟨a, 0, none⟩), .pointer (some ⟨b, 0, none⟩), .pointer (some ⟨c, 0, none⟩)] u w fun e u' w' => u' = u ∧ e = .returned (.tuple #[]) ∧ w' = ((w.setCell ⟨g, 0, none⟩ (.slice xa xm xc)).setCell ⟨g, 1, none⟩ (.int .i64 t)).setCell ⟨g, 2, none⟩ (.slice za zn zc) := by
  have b0 := hb.c0
  have b1 := hb.c1
  have b2 := hb.c2
  have g0 := hg.c0
  have g1 := hg.c1
  have g2 := hg.c2
  have f0 := hg.free 0
  have f1 := hg.free 1
  have f2 := hg.free 2
  clear hb hg
  go_enter_d Try.func79, Try.ntmps79
  go_wp2
  go_end0
  exact ⟨rfl, rfl⟩
end Go.Proofs.Ytmmjidhpmbcoiaa
namespace Go.Proofs.Ytmmjidhpmbcoiaa
open Go.RowKit
set_option linter.unusedVariables false
set_option linter.unusedSimpArgs false
set_option maxRecDepth 20000 in
set_option maxHeartbeats 1000000 in
/-- allRight. -/
theorem allRight_impl {d : List Int} {b : Option Addr} {w : World} (e : Nat) (h : Ints w b d) (hd : d.length ≤ 1048576) :
    Calls Try.prog 102 #[.slice b d.length e] w fun e w' => e = .returned (.bool (d.all ok)) ∧ w' = w := by
  have HJ : Hid (Ints w b d) := h
  clear h
  go_enter Try.func102, Try.ntmps102
  go_wp2
  go_loopw [7] (fun i w' => ∃ k : Nat, k ≤ d.length ∧ i = .int .i64 k ∧ (d.take k).all ok = true ∧ w' = w) (fun i _ => d.length - (intOf i).toNat)
  case atStart => exact ⟨0, by omega, rfl, by simp, rfl⟩
  case round =>
    obtain ⟨k, hk, rfl, ht, rfl⟩ := hrel
    have HT : Hid ((d.take k).all ok = true) := ht
    clear ht
    by_cases hlt : (k : Int) < (d.length : Int)
    · have L : k < d.length := by omega
      obtain ⟨b1, o1, rfl, _, c1⟩ := HJ.out.at L
      have Q : Hid ((d.take (k + 1)).all ok = ((d.take k).all ok && ok (d.getD k 0))) := by show _ = _; rw [take_snoc L, all_snocN]
      have QB : Hid (ok (d.getD k 0) = false → d.all ok = false) := fun h => by
        rw [List.all_eq_false]
        exact ⟨d.getD k 0, by simp [L], by rw [h]; decide⟩
      clear L
      generalize d.getD k 0 = x at c1 Q QB
      by_cases hx : ok x = true
      · have HT' : Hid ((d.take (k + 1)).all ok = true) := by show _ = _; rw [Q.out, HT.out, hx]; rfl
        clear Q QB
        go_wp2_with fail
        refine (numOk_impl x _).mono ?_
        rintro r w' ⟨rfl, hw⟩
        subst w'
        go_wp2
        go_roundw
        case rel => exact ⟨k + 1, by omega, by go_num, HT'.out, by first | trivial | rfl⟩
        case measure => simp [intOf]; omega
      · have hx : ok x = false := by simpa using hx
        have HV' : Hid (d.all ok = false) := QB.out hx
        clear Q QB
        go_wp2_with fail
        refine (numOk_impl x _).mono ?_
        rintro r w' ⟨rfl, hw⟩
        subst w'
        go_wp2
        go_ret
        exact ⟨by rw [HV'.out]; rfl, rfl⟩
    · have HV' : Hid (d.all ok = true) := by
        have h := HT.out
        show _ = _
        rw [List.take_of_length_le (by omega)] at h
        exact h
      go_wp2
      go_ret
      exact ⟨by rw [HV'.out]; rfl, rfl⟩
end Go.Proofs.Ytmmjidhpmbcoiaa
namespace Go.Proofs.Ytmmjidhpmbcoiaa
open Go.RowKit
set_option linter.unusedVariables false
/-- Arrays of three numbers, compared as a whole. -/
theorem eq_axes (w : World) (i j k i' j' k' : Int) : (Op.equalIn 10000 118 (.agg #[.int .i64 i, .int .i64 j, .int .i64 k]) (.agg #[.int .i64 i', .int .i64 j', .int .i64 k'])).run Try.prog w = .ok (i == i' && (j == j' && k == k')) w := by
  have hs : (sizeOf 3).run Try.prog w = .ok 1 w := by kernel_rfl
  have p0 : ∀ a b c : Int, (part 3 #[.int .i64 a, .int .i64 b, .int .i64 c] 0).run Try.prog w = .ok (.int .i64 a) w := fun a b c => by kernel_rfl
  have p1 : ∀ a b c : Int, (part 3 #[.int .i64 a, .int .i64 b, .int .i64 c] 1).run Try.prog w = .ok (.int .i64 b) w := fun a b c => by kernel_rfl
  have p2 : ∀ a b c : Int, (part 3 #[.int .i64 a, .int .i64 b, .int .i64 c] 2).run Try.prog w = .ok (.int .i64 c) w := fun a b c => by kernel_rfl
  have ei : ∀ a b : Int, (Op.equalIn (9998 + 1) 3 (.int .i64 a) (.int .i64 b)).run Try.prog w = .ok (a == b) w := fun a b => run_equalIn_int w 9998 3 .i64 .i64 a b Try.underlying3
  show (Op.equalIn (9998 + 1 + 1) 118 _ _).run Try.prog w = _
  rw [Op.equalIn]
  generalize 9998 + 1 = d at ei ⊢
  simp only [Sem.run_bind, run_underlying Try.underlying118, Result.andThen_ok, hs]
  simp only [Std.Legacy.Range.forIn_eq_forIn_range', Std.Legacy.Range.size, List.range', Nat.sub_zero, Nat.add_sub_cancel, Nat.div_one, List.forIn_cons, List.forIn_nil, Sem.run_bind]
  cases h0 : i == i' <;> cases h1 : j == j' <;> cases h2 : k == k' <;> simp [p0, p1, p2, ei, h0, h1, h2]
theorem newInts_2 (w : World) (A : Obj) (l : List Int) {B : Nat} (hB : B ≤ w.heap.size) (hl : l.length ≤ 1073741824) : NewInts B ((w.alloc A).alloc (.cells (vals l) 3)) (.slice (some ⟨w.heap.size + 1, 0, none⟩) l.length l.length) l := by
  have e : (w.alloc A).heap.size = w.heap.size + 1 := by simp
  rw [← e]
  exact newInts_alloc (w.alloc A) l (by omega) hl
end Go.Proofs.Ytmmjidhpmbcoiaa
namespace Go.Proofs.Ytmmjidhpmbcoiaa
open Go.RowKit
set_option linter.unusedVariables false
theorem sizeV_0 : sizeV [] = 1 := by simp [sizeV, prodV]
theorem sizeV_1 (x : Int) : sizeV [x] = if 0 ≤ x ∧ x ≤ 300 then (if 300 < x then -1 else x) else -1 := by simp [sizeV, dimOk, prodV]
theorem sizeV_2 (x y : Int) : sizeV [x, y] = if (0 ≤ x ∧ x ≤ 300) ∧ 0 ≤ y ∧ y ≤ 300 then (if 300 < x * y then -1 else x * y) else -1 := by simp [sizeV, dimOk, prodV]
theorem sizeV_3 (x y z : Int) : sizeV [x, y, z] = if (0 ≤ x ∧ x ≤ 300) ∧ (0 ≤ y ∧ y ≤ 300) ∧ 0 ≤ z ∧ z ≤ 300 then (if 300 < x * y * z then -1 else x * y * z) else -1 := by simp [sizeV, dimOk, prodV]
theorem dim3 (x : Int) : x < 0 ∨ (0 ≤ x ∧ 300 < x) ∨ (0 ≤ x ∧ x ≤ 300) := by omega
/-- The numbers of a shape by value. -/
def Ext (l : List Int) (n : Nat) (x y z : Int) : Prop := n = l.length ∧ x = l.getD 0 0 ∧ y = l.getD 1 0 ∧ z = l.getD 2 0
theorem ext_bad {l : List Int} {a : Option Addr} {w : World} {c : Nat} (hs : sizeV l < 0)
    (h : Calls Try.prog 112 #[.slice a l.length c] w fun e w' => e = .returned (.tuple #[.agg #[.int .i64 0, .int .i64 0, .int .i64 0, .int .i64 0], .bool false]) ∧ Below w.heap.size w w') :
    Calls Try.prog 112 #[.slice a l.length c] w fun e w' => ∃ (n : Nat) (x y z : Int), e = .returned (.tuple #[.agg #[.int .i64 n, .int .i64 x, .int .i64 y, .int .i64 z], .bool (decide (0 ≤ sizeV l))]) ∧ (0 ≤ sizeV l → Ext l n x y z) ∧ Below w.heap.size w w' := by
  refine h.mono ?_
  rintro e w' ⟨rfl, hb⟩
  exact ⟨0, 0, 0, 0, by rw [show decide (0 ≤ sizeV l) = false by simp; omega]; rfl, fun h => by omega, hb⟩
theorem ext_good {l : List Int} {a : Option Addr} {w : World} {c n : Nat} {x y z : Int} (hs : 0 ≤ sizeV l) (he : Ext l n x y z)
    (h : Calls Try.prog 112 #[.slice a l.length c] w fun e w' => e = .returned (.tuple #[.agg #[.int .i64 n, .int .i64 x, .int .i64 y, .int .i64 z], .bool true]) ∧ Below w.heap.size w w') :
    Calls Try.prog 112 #[.slice a l.length c] w fun e w' => ∃ (n : Nat) (x y z : Int), e = .returned (.tuple #[.agg #[.int .i64 n, .int .i64 x, .int .i64 y, .int .i64 z], .bool (decide (0 ≤ sizeV l))]) ∧ (0 ≤ sizeV l → Ext l n x y z) ∧ Below w.heap.size w w' := by
  refine h.mono ?_
  rintro e w' ⟨rfl, hb⟩
  exact ⟨n, x, y, z, by rw [show decide (0 ≤ sizeV l) = true by simpa using hs], fun _ => he, hb⟩
/-- A list as a shape by value. -/
theorem ext_impl {l : List Int} {a : Option Addr} {w : World} (c : Nat) (h1 : Ints w a l) :
    Calls Try.prog 112 #[.slice a l.length c] w fun e w' => ∃ (n : Nat) (x y z : Int), e = .returned (.tuple #[.agg #[.int .i64 n, .int .i64 x, .int .i64 y, .int .i64 z], .bool (decide (0 ≤ sizeV l))]) ∧ (0 ≤ sizeV l → Ext l n x y z) ∧ Below w.heap.size w w' := by
  by_cases hl : 3 < l.length
  · exact ext_bad (by unfold sizeV; rw [if_pos hl]; decide) (ext_long l a c w hl)
  · rcases len3 (by omega : l.length ≤ 3) with rfl | ⟨x, rfl⟩ | ⟨x, y, rfl⟩ | ⟨x, y, z, rfl⟩
    · exact ext_good (n := 0) (x := 0) (y := 0) (z := 0) (by rw [sizeV_0]; decide) ⟨rfl, rfl, rfl, rfl⟩ (ext_0_ok a c w h1)
    · rcases dim3 x with hb | ⟨hb0, hb⟩ | ⟨x0, x1⟩
      · exact ext_bad (by rw [sizeV_1, if_neg (by omega)]; decide) (ext_1_neg0 x a c w h1  hb)
      · exact ext_bad (by rw [sizeV_1, if_neg (by omega)]; decide) (ext_1_great0 x a c w h1  hb0 hb)
      exact ext_good (n := 1) (x := x) (y := 0) (z := 0) (by rw [sizeV_1, if_pos (by omega), if_neg (by omega)]; exact x0) ⟨rfl, rfl, rfl, rfl⟩ (ext_1_ok x a c w h1 x0 x1)
    · rcases dim3 x with hb | ⟨hb0, hb⟩ | ⟨x0, x1⟩
      · exact ext_bad (by rw [sizeV_2, if_neg (by omega)]; decide) (ext_2_neg0 x y a c w h1  hb)
      · exact ext_bad (by rw [sizeV_2, if_neg (by omega)]; decide) (ext_2_great0 x y a c w h1  hb0 hb)
      rcases dim3 y with hb | ⟨hb0, hb⟩ | ⟨y0, y1⟩
      · exact ext_bad (by rw [sizeV_2, if_neg (by omega)]; decide) (ext_2_neg1 x y a c w h1 x0 x1 hb)
      · exact ext_bad (by rw [sizeV_2, if_neg (by omega)]; decide) (ext_2_great1 x y a c w h1 x0 x1 hb0 hb)
      by_cases hp : 300 < x * y
      · exact ext_bad (by rw [sizeV_2, if_pos (by omega), if_pos hp]; decide) (ext_2_much x y a c w h1 x0 x1 y0 y1 hp)
      exact ext_good (n := 2) (x := x) (y := y) (z := 0) (by rw [sizeV_2, if_pos (by omega), if_neg (by omega)]; exact Int.mul_nonneg x0 y0) ⟨rfl, rfl, rfl, rfl⟩ (ext_2_ok x y a c w h1 x0 x1 y0 y1 (by omega))
    · rcases dim3 x with hb | ⟨hb0, hb⟩ | ⟨x0, x1⟩
      · exact ext_bad (by rw [sizeV_3, if_neg (by omega)]; decide) (ext_3_neg0 x y z a c w h1  hb)
      · exact ext_bad (by rw [sizeV_3, if_neg (by omega)]; decide) (ext_3_great0 x y z a c w h1  hb0 hb)
      rcases dim3 y with hb | ⟨hb0, hb⟩ | ⟨y0, y1⟩
      · exact ext_bad (by rw [sizeV_3, if_neg (by omega)]; decide) (ext_3_neg1 x y z a c w h1 x0 x1 hb)
      · exact ext_bad (by rw [sizeV_3, if_neg (by omega)]; decide) (ext_3_great1 x y z a c w h1 x0 x1 hb0 hb)
      rcases dim3 z with hb | ⟨hb0, hb⟩ | ⟨z0, z1⟩
      · exact ext_bad (by rw [sizeV_3, if_neg (by omega)]; decide) (ext_3_neg2 x y z a c w h1 x0 x1 y0 y1 hb)
      · exact ext_bad (by rw [sizeV_3, if_neg (by omega)]; decide) (ext_3_great2 x y z a c w h1 x0 x1 y0 y1 hb0 hb)
      by_cases hp : 300 < x * y * z
      · exact ext_bad (by rw [sizeV_3, if_pos (by omega), if_pos hp]; decide) (ext_3_much x y z a c w h1 x0 x1 y0 y1 z0 z1 hp)
      exact ext_good (n := 3) (x := x) (y := y) (z := z) (by rw [sizeV_3, if_pos (by omega), if_neg (by omega)]; exact Int.mul_nonneg (Int.mul_nonneg x0 y0) z0) ⟨rfl, rfl, rfl, rfl⟩ (ext_3_ok x y z a c w h1 x0 x1 y0 y1 z0 z1 (by omega))
/-- Its size. -/
theorem size_ext {l : List Int} {n : Nat} {x y z : Int} (hs : 0 ≤ sizeV l) (he : Ext l n x y z) (w : World) :
    Calls Try.prog 113 #[.agg #[.int .i64 n, .int .i64 x, .int .i64 y, .int .i64 z]] w fun e w' => e = .returned (.int .i64 (sizeV l)) ∧ ∃ o, w' = w.alloc o := by
  obtain ⟨rfl, rfl, rfl, rfl⟩ := he
  obtain ⟨k1, k2, k3, k4⟩ := sizeV_ok hs
  rw [k4]
  rcases len3 k1 with rfl | ⟨x, rfl⟩ | ⟨x, y, rfl⟩ | ⟨x, y, z, rfl⟩
  · exact (size_0_ext w).mono fun e w' h => ⟨h.1, _, h.2⟩
  · simp only [List.all_cons, List.all_nil, Bool.and_true] at k2
    have dx := dimOk_bd k2
    rw [prod1]
    exact (size_1_ext x w dx.1 dx.2).mono fun e w' h => ⟨h.1, _, h.2⟩
  · simp only [List.all_cons, List.all_nil, Bool.and_true, Bool.and_eq_true] at k2
    have dx := dimOk_bd k2.1
    have dy := dimOk_bd k2.2
    rw [prod2]
    exact (size_2_ext x y w dx.1 dx.2 dy.1 dy.2).mono fun e w' h => ⟨h.1, _, h.2⟩
  · simp only [List.all_cons, List.all_nil, Bool.and_true, Bool.and_eq_true] at k2
    have dx := dimOk_bd k2.1
    have dy := dimOk_bd k2.2.1
    have dz := dimOk_bd k2.2.2
    rw [prod3]
    exact (size_3_ext x y z w dx.1 dx.2 dy.1 dy.2 dz.1 dz.2).mono fun e w' h => ⟨h.1, _, h.2⟩
theorem sizeV_neg {l : List Int} (h : ¬ 0 ≤ sizeV l) : sizeV l = -1 := by have := sizeV_bd l; omega
set_option maxRecDepth 20000 in
set_option maxHeartbeats 1000000 in
/-- SizeOf. -/
theorem size_impl {l : List Int} {a : Option Addr} {w : World} (c : Nat) (h1 : Ints w a l) :
    Calls Try.prog 101 #[.slice a l.length c] w fun e w' => e = .returned (.int .i64 (sizeV l)) ∧ Below w.heap.size w w' := by
  have H1 : Hid (Ints w a l) := h1
  clear h1
  by_cases hs : 0 ≤ sizeV l
  · have hs' : decide (0 ≤ sizeV l) = true := by simpa using hs
    have HS : Hid (0 ≤ sizeV l) := hs
    clear hs
    go_enter Try.func101, Try.ntmps101
    go_wp2_with fail
    refine (ext_impl _ H1.out).mono ?_
    rintro e w1 ⟨n, x, y, z, rfl, he, hb⟩
    have HE : Hid (Ext l n x y z) := he HS.out
    have HB : Hid (Below w.heap.size w w1) := hb
    clear he hb
    go_wp2_with fail
    refine (size_ext HS.out HE.out _).mono ?_
    rintro e w2 ⟨rfl, o, hw⟩
    subst w2
    go_wp2
    go_ret
    exact ⟨rfl, bAlloc (bAlloc HB.out _) _⟩
  · have hs' : decide (0 ≤ sizeV l) = false := by simpa using hs
    have HV : Hid (sizeV l = -1) := sizeV_neg hs
    clear hs
    go_enter Try.func101, Try.ntmps101
    go_wp2_with fail
    refine (ext_impl _ H1.out).mono ?_
    rintro e w1 ⟨n, x, y, z, rfl, he, hb⟩
    have HB : Hid (Below w.heap.size w w1) := hb
    clear he hb
    go_wp2
    go_ret
    exact ⟨ret_num HV.out.symm, bAlloc HB.out _⟩
theorem newInts_nil (B : Nat) (w : World) : NewInts B w (.slice none 0 0) [] := ⟨rfl, .inl ⟨rfl, rfl⟩⟩
end Go.Proofs.Ytmmjidhpmbcoiaa
namespace Go.Proofs.Ytmmjidhpmbcoiaa
open Go.RowKit
set_option linter.unusedVariables false
set_option linter.unusedSimpArgs false
/-- What VectorOf answers. -/
def vecOk (l : List Int) : Bool := arrOk [(l.length : Int)] l
end Go.Proofs.Ytmmjidhpmbcoiaa
namespace Go.Proofs.Ytmmjidhpmbcoiaa
open Go.RowKit
set_option linter.unusedVariables false
set_option linter.unusedSimpArgs false
set_option maxRecDepth 20000 in
set_option maxHeartbeats 4000000 in
/-- ArrayOk. -/
theorem arrOk_impl {s d : List Int} {w : World} {v : Value} (h : ArrI w v s d) (hd : d.length ≤ 1048576) :
    Calls Try.prog 75 #[v] w fun e w' => e = .returned (.bool (arrOk s d)) ∧ Below w.heap.size w w' := by
  obtain ⟨a, c, b, e, rfl, h1, h2, _, _⟩ := h
  have H1 : Hid (Ints w a s) := h1
  have H2 : Hid (Ints w b d) := h2
  have HD : Hid (d.length ≤ 1048576) := hd
  clear h1 h2 hd
  have HSZ : Hid (∀ W, Ints W a s → Calls Try.prog 101 #[.slice a s.length c] W fun e w' => e = .returned (.int .i64 (sizeV s)) ∧ Below W.heap.size W w') := fun W h => size_impl c h
  have HAR : Hid (∀ W, Ints W b d → Calls Try.prog 102 #[.slice b d.length e] W fun e w' => e = .returned (.bool (d.all ok)) ∧ w' = W) := fun W h => allRight_impl e h HD.out
  by_cases hs : sizeV s = d.length
  · have HV : Hid (arrOk s d = d.all ok) := by show _ = _; simp [arrOk, hs]
    rw [hs] at HSZ
    clear hs
    generalize d.all ok = q at *
    go_enter Try.func75, Try.ntmps75
    go_wp2
    generalize hW : w.alloc (.cells #[.slice a s.length c, .slice b d.length e] 32) = W
    have HB : Hid (Below w.heap.size w W) := by rw [← hW]; exact bAlloc (Below.refl _ _) _
    have X : Hid (Box W w.heap.size (.slice a s.length c) (.slice b d.length e) 32) := by rw [← hW]; exact box_new w _ _ _
    have x0 := X.out.c0
    have x1 := X.out.c1
    clear hW
    go_region_held3 (fun w' => w'.cell? ⟨w.heap.size, 0, none⟩ = some (.slice a s.length c) ∧ w'.cell? ⟨w.heap.size, 1, none⟩ = some (.slice b d.length e))
      (first | exact ⟨z0, z1⟩ | exact ⟨y0, y1⟩ | exact ⟨x0, x1⟩)
      (first
        | (go_at_call 101; refine (HSZ.out _ (H1.out.keep (bTrans HB.out ((Below.refl W.heap.size W).drew)))).mono ?_; rintro r w1 ⟨rfl, hb⟩; have HB1 : Hid (Below W.heap.size W w1) := bTrans ((Below.refl W.heap.size W).drew) hb; have y0 := (X.out.keep HB1.out).c0; have y1 := (X.out.keep HB1.out).c1; clear hb)
        | (go_at_call 102; refine (HAR.out _ (H2.out.keep (bTrans HB.out HB1.out))).mono ?_; rintro r w2 ⟨rfl, hw⟩; subst w2))
    go_wp2
    go_ret
    exact ⟨by rw [HV.out]; rfl, bTrans HB.out HB1.out⟩
  · have HV : Hid (arrOk s d = false) := by show _ = _; simp [arrOk, hs]
    have hne : ((d.length : Int) == sizeV s) = false := by simp; exact fun e => hs e.symm
    generalize sizeV s = z at *
    clear hs
    go_enter Try.func75, Try.ntmps75
    go_wp2
    generalize hW : w.alloc (.cells #[.slice a s.length c, .slice b d.length e] 32) = W
    have HB : Hid (Below w.heap.size w W) := by rw [← hW]; exact bAlloc (Below.refl _ _) _
    have X : Hid (Box W w.heap.size (.slice a s.length c) (.slice b d.length e) 32) := by rw [← hW]; exact box_new w _ _ _
    have x0 := X.out.c0
    have x1 := X.out.c1
    clear hW
    first
      | go_region_with (go_at_call 101; refine (HSZ.out _ (H1.out.keep (bTrans HB.out ((Below.refl W.heap.size W).drew)))).mono ?_; rintro r w1 ⟨rfl, hb⟩; have HB1 : Hid (Below W.heap.size W w1) := bTrans ((Below.refl W.heap.size W).drew) hb; have y0 := (X.out.keep HB1.out).c0; have y1 := (X.out.keep HB1.out).c1; clear hb)
      | fail "no"
    all_goals
      go_wp2
      go_ret
      exact ⟨by rw [HV.out]; rfl, bTrans HB.out HB1.out⟩
set_option maxRecDepth 20000 in
set_option maxHeartbeats 2000000 in
/-- copyIfOk. -/
theorem copyIfOk_impl {s d : List Int} {w : World} {v : Value} (h : ArrI w v s d) (hs : s.length ≤ 1048576) (hd : d.length ≤ 1048576) :
    Calls Try.prog 44 #[v] w fun e w' => ∃ v', e = .returned (.tuple #[v', .bool (arrOk s d)]) ∧ Arr w.heap.size w'.heap.size w' v' (if arrOk s d = true then s else []) (if arrOk s d = true then d else []) ∧ Below w.heap.size w w' := by
  have H : Hid (ArrI w v s d) := h
  obtain ⟨a, c, b, e, rfl, _, _, _, _⟩ := h
  have HS : Hid (s.length ≤ 1048576) := hs
  have HD : Hid (d.length ≤ 1048576) := hd
  clear hs hd
  cases ho : arrOk s d
  all_goals
    have HO : Hid (arrOk s d = _) := ho
    clear ho
    go_enter Try.func44, Try.ntmps44
    go_wp2_with fail
    refine (arrOk_impl (H.out.keep (bAlloc (bAlloc (Below.refl _ _) _) _)) HD.out).mono ?_
    rintro r w1 ⟨rfl, hb⟩
    have HB : Hid (Below w.heap.size w w1) := bTrans (bAlloc (bAlloc (Below.refl _ _) _) _) hb
    have X : Hid (Box w1 w.heap.size (.slice a s.length c) (.slice b d.length e) 32) := ((box_new w _ _ _).keep (bAlloc (Below.refl _ _) _)).keep hb
    have Y : Hid (Box w1 (w.heap.size + 1) (.slice none 0 0) (.slice none 0 0) 32) := (box_new2 w _ _ _ _).keep hb
    have x0 := X.out.c0
    have x1 := X.out.c1
    have y0 := Y.out.c0
    have y1 := Y.out.c1
    have f0 : w1.frozen? ⟨w.heap.size + 1, 0, none⟩ = false := free_at Y.out 0
    have f1 : w1.frozen? ⟨w.heap.size + 1, 1, none⟩ = false := free_at Y.out 1
    clear hb
    rw [HO.out]
  · have HR : Hid (((w1.setCell ⟨w.heap.size + 1, 0, none⟩ (.slice none 0 0)).setCell ⟨w.heap.size + 1, 1, none⟩ (.slice none 0 0)).heap[w.heap.size + 1]? = some (.cells #[.slice none 0 0, .slice none 0 0] 32 (0, 0))) := arr_stored Y.out
    go_wp2
    refine bodyPost_ret (results_arr_tmp Try.results44 _ _ (w.heap.size + 1) _ _ rfl HR.out) rfl ?_
    exact ⟨_, rfl, arr_zero _ _ _, below_setCell (below_setCell HB.out (by omega) _ _) (by omega) _ _⟩
  · go_wp2_with fail
    refine (copyOf_impl (H.out.keep HB.out) HS.out HD.out).mono ?_
    rintro r w2 ⟨v', rfl, ha, hb⟩
    obtain ⟨a', c', b', e', rfl, _, _, _, _⟩ := ha.arrI
    have HA : Hid (Arr w1.heap.size w2.heap.size w2 (.agg #[.slice a' s.length c', .slice b' d.length e']) s d) := ha
    have HB2 : Hid (Below w.heap.size w w2) := bTrans HB.out hb
    have Y2 : Hid (Box w2 (w.heap.size + 1) (.slice none 0 0) (.slice none 0 0) 32) := Y.out.keep hb
    have LT : Hid (w.heap.size + 1 < w1.heap.size) := Y.out.lt
    clear ha hb x0 x1 y0 y1 f0 f1
    have y0 := Y2.out.c0
    have y1 := Y2.out.c1
    have f0 : w2.frozen? ⟨w.heap.size + 1, 0, none⟩ = false := free_at Y2.out 0
    have f1 : w2.frozen? ⟨w.heap.size + 1, 1, none⟩ = false := free_at Y2.out 1
    have HR : Hid (((w2.setCell ⟨w.heap.size + 1, 0, none⟩ (.slice a' s.length c')).setCell ⟨w.heap.size + 1, 1, none⟩ (.slice b' d.length e')).heap[w.heap.size + 1]? = some (.cells #[.slice a' s.length c', .slice b' d.length e'] 32 (0, 0))) := arr_stored Y2.out
    go_wp2
    refine bodyPost_ret (results_arr_tmp Try.results44 _ _ (w.heap.size + 1) _ _ rfl HR.out) rfl ?_
    refine ⟨_, rfl, ?_, below_setCell (below_setCell HB2.out (by omega) _ _) (by omega) _ _⟩
    have L := LT.out
    exact ((HA.out.setCell L _ _).setCell L _ _).mono (by omega) (by simp [size_setCell])
theorem arrOk_one (x : Int) : arrOk [] [x] = ok x := by simp [arrOk, sizeV_0']
set_option maxRecDepth 20000 in
set_option maxHeartbeats 2000000 in
/-- ScalarOf. -/
theorem scalarOf_impl (x : Int) (w : World) :
    Calls Try.prog 13 #[.int .i64 x] w fun e w' => ∃ v, e = .returned (.tuple #[v, .bool (ok x)]) ∧ Arr w.heap.size w'.heap.size w' v [] (if ok x = true then [x] else []) ∧ Below w.heap.size w w' := by
  obtain ⟨D, hD⟩ : ∃ D, D = (if ok x = true then [x] else []) := ⟨_, rfl⟩
  rw [← hD]
  have HC : Hid (∀ W u, ArrI W u [] [x] → Calls Try.prog 44 #[u] W fun e w' => ∃ v', e = .returned (.tuple #[v', .bool (ok x)]) ∧ Arr W.heap.size w'.heap.size w' v' [] D ∧ Below W.heap.size W w') := by
    intro W u hu
    have q := copyIfOk_impl hu (by simp) (by simp)
    rw [arrOk_one, ← hD] at q
    refine q.mono ?_
    rintro e w' ⟨v', rfl, ha, hb⟩
    exact ⟨v', rfl, by simpa using ha, hb⟩
  clear hD
  go_enter Try.func13, Try.ntmps13
  go_wp2_with fail
  refine (HC.out _ _ ⟨none, 0, _, 1, rfl, .inl rfl, (by simpa [vals] using ints_new (w.alloc (.cells #[.slice none 0 0, .slice none 0 0] 32)) [x] 3), by simp, by simp⟩).mono ?_
  rintro r w1 ⟨v', rfl, ha, hb⟩
  obtain ⟨a', c', b', e', rfl, _, _, _, _⟩ := ha.arrI
  have HA : Hid (Arr (w.heap.size + 2) w1.heap.size w1 (.agg #[.slice a' 0 c', .slice b' D.length e']) [] D) := by show Arr _ _ _ _ _ _; simpa using ha
  have HB : Hid (Below w.heap.size w w1) := bTrans (bAlloc (bAlloc (Below.refl _ _) _) _) hb
  have Y : Hid (Box w1 w.heap.size (.slice none 0 0) (.slice none 0 0) 32) := ((box_new w _ _ _).keep (bAlloc (Below.refl _ _) _)).keep hb
  clear ha hb
  have y0 := Y.out.c0
  have y1 := Y.out.c1
  have f0 : w1.frozen? ⟨w.heap.size, 0, none⟩ = false := free_at Y.out 0
  have f1 : w1.frozen? ⟨w.heap.size, 1, none⟩ = false := free_at Y.out 1
  have HR : Hid (((w1.setCell ⟨w.heap.size, 0, none⟩ (.slice a' 0 c')).setCell ⟨w.heap.size, 1, none⟩ (.slice b' D.length e')).heap[w.heap.size]? = some (.cells #[.slice a' 0 c', .slice b' D.length e'] 32 (0, 0))) := arr_stored Y.out
  simp only [List.length_nil]
  go_wp2
  refine bodyPost_ret (results_arr_tmp Try.results13 _ _ w.heap.size _ _ rfl HR.out) rfl ?_
  refine ⟨_, rfl, ?_, below_setCell (below_setCell HB.out (Nat.le_refl _) _ _) (Nat.le_refl _) _ _⟩
  exact ((HA.out.setCell (by omega) _ _).setCell (by omega) _ _).mono (by omega) (by simp [size_setCell])
end Go.Proofs.Ytmmjidhpmbcoiaa
namespace Go.Proofs.Ytmmjidhpmbcoiaa
open Go.RowKit
set_option linter.unusedVariables false
set_option linter.unusedSimpArgs false
theorem HB.again {L g : Nat} {F : Nat → Prop} {w : World} {x z : Value} {W : List Int} {t : Int} {n : Nat} {E : Nat → Cel} (h : HB L F g w x z W t n E) : HB L F g (((w.setCell ⟨g, 0, none⟩ x).setCell ⟨g, 1, none⟩ (.int .i64 t)).setCell ⟨g, 2, none⟩ z) x z W t n E := by
  obtain ⟨B1, C1, B2, C2, h1, h2, h3, h4, h5, hF, h6, h7⟩ := h
  have hw : Win g (g + 1) w (((w.setCell ⟨g, 0, none⟩ x).setCell ⟨g, 1, none⟩ (.int .i64 t)).setCell ⟨g, 2, none⟩ z) := ((win_setCell _ _ _ _).trans (win_setCell _ _ _ _)).trans (win_setCell _ _ _ _)
  have hs := hw.size
  exact ⟨B1, C1, B2, C2, ((h1.set0 _).set1 _).set2 _, by omega, h3, h4, h5, fun k hk => by have := hF k hk; omega, h6.win hw (by omega), h7.win hw (by omega)⟩
/-- The variables of put: the pointer, whether it is done, and what was. -/
structure PutBox (N g : Nat) (w : World) (x y z : Value) (b : Bool) : Prop where
  p : w.heap[N]? = some (.cells #[.pointer (some ⟨g, 0, none⟩)] 94 (0, 0))
  d : w.heap[N + 1 + 1]? = some (.cells #[.bool b] 4 (0, 0))
  w : Box3 w (N + 1 + 1 + 1) x y z 28
section
variable {N g : Nat} {w w' : World} {x y z : Value} {b : Bool}
theorem PutBox.keep (h : PutBox N g w x y z b) (hb : Below w.heap.size w w') : PutBox N g w' x y z b :=
  ⟨by rw [hb.block _ (lt_of_heapA h.p)]; exact h.p, by rw [hb.block _ (lt_of_heapA h.d)]; exact h.d, h.w.keep hb⟩
theorem PutBox.stay (h : PutBox N g w x y z b) (hs : ∀ k, N ≤ k → k < N + 4 → w'.heap[k]? = w.heap[k]?) : PutBox N g w' x y z b :=
  ⟨by rw [hs _ (by omega) (by omega)]; exact h.p, by rw [hs _ (by omega) (by omega)]; exact h.d, by unfold Box3; rw [hs _ (by omega) (by omega)]; exact h.w⟩
theorem PutBox.p0 (h : PutBox N g w x y z b) : w.cell? ⟨N, 0, none⟩ = some (.pointer (some ⟨g, 0, none⟩)) := cell_at h.p rfl
theorem PutBox.d0 (h : PutBox N g w x y z b) : w.cell? ⟨N + 1 + 1, 0, none⟩ = some (.bool b) := cell_at h.d rfl
theorem PutBox.df (h : PutBox N g w x y z b) : w.frozen? ⟨N + 1 + 1, 0, none⟩ = false := free_at h.d 0
theorem PutBox.done (h : PutBox N g w x y z b) (b' : Bool) : PutBox N g (w.setCell ⟨N + 1 + 1, 0, none⟩ (.bool b')) x y z b' := by
  have hw := win_setCell w (N + 1 + 1) 0 (.bool b')
  exact ⟨by rw [hw.block _ (lt_of_heapA h.p) (by omega)]; exact h.p, by have := heap_setCell_same w (N + 1 + 1) 0 _ _ (.bool b') h.d; simpa using this, h.w.win hw (by omega)⟩
end
theorem putBox_new (w : World) (g : Nat) (A : Obj) (x y z : Value) : PutBox w.heap.size g ((((w.alloc (.cells #[.pointer (some ⟨g, 0, none⟩)] 94)).alloc A).alloc (.cells #[.bool false] 4)).alloc (.cells #[x, y, z] 28)) x y z false := by
  have k1 := heap_alloc_new w (.cells #[.pointer (some ⟨g, 0, none⟩)] 94)
  have s1 : (w.alloc (.cells #[.pointer (some ⟨g, 0, none⟩)] 94)).heap.size = w.heap.size + 1 := by simp
  generalize w.alloc (.cells #[.pointer (some ⟨g, 0, none⟩)] 94) = v1 at *
  have s2 : (v1.alloc A).heap.size = w.heap.size + 1 + 1 := by simp [s1]
  have b2 := bAlloc (Below.refl v1.heap.size v1) A
  generalize v1.alloc A = v2 at *
  have k3 := heap_alloc_new v2 (.cells #[.bool false] 4)
  have s3 : (v2.alloc (.cells #[.bool false] 4)).heap.size = w.heap.size + 1 + 1 + 1 := by simp [s2]
  have b3 := bAlloc (Below.refl v2.heap.size v2) (.cells #[.bool false] 4)
  generalize v2.alloc (.cells #[.bool false] 4) = v3 at *
  have k4 := heap_alloc_new v3 (.cells #[x, y, z] 28)
  have b4 := bAlloc (Below.refl v3.heap.size v3) (.cells #[x, y, z] 28)
  rw [s2] at k3
  rw [s3] at k4
  exact ⟨by rw [b4.block _ (by omega), b3.block _ (by omega), b2.block _ (by omega)]; exact k1, by rw [b4.block _ (by omega)]; exact k3, k4⟩
set_option maxRecDepth 20000 in
set_option maxHeartbeats 16000000 in
/-- put, where the array is not right: the heap is as it was. -/
theorem put_wrong {L g : Nat} {F : Nat → Prop} {w : World} {xa za : Option Addr} {xc zc : Nat} {W : List Int} {t : Int} {n : Nat} {E : Nat → Cel} {u : Value} {s d : List Int} (h : HB L F g w (.slice xa W.length xc) (.slice za n zc) W t n E) (hL : L ≤ w.heap.size) (ha : ArrI w u s d) (hd : d.length ≤ 1048576) (hno : arrOk s d = false) :
    Calls Try.prog 46 #[.pointer (some ⟨g, 0, none⟩), u] w fun e w' => e = .returned (.tuple #[.int .i64 (-1), .bool false]) ∧ HB L F g w' (.slice xa W.length xc) (.slice za n zc) W t n E ∧ Below L w w' := by
  have H : Hid (HB L F g w (.slice xa W.length xc) (.slice za n zc) W t n E) := h
  have HL : Hid (L ≤ w.heap.size) := hL
  have CA : Hid (∀ W', Below w.heap.size w W' → Calls Try.prog 75 #[u] W' fun e w' => e = .returned (.bool false) ∧ Below W'.heap.size W' w') := fun W' hb => by rw [← hno]; exact arrOk_impl (ha.keep hb) hd
  obtain ⟨sa, sc, da, dc, rfl, _⟩ := ha
  have hmf : ∀ (fn : Fn) (first cap : Array Value) (w : World), (Instr.makeFunc fn first cap).run Try.prog w = .ok (.func fn first cap) w := fun _ _ _ _ => rfl
  have x0 := h.box.c0
  have x1 := h.box.c1
  have x2 := h.box.c2
  have hlt := h.box.lt
  have nx0 := World.new_ne w ⟨g, 0, none⟩ x0
  have q0 : ∀ O1 O2 O3, (((w.alloc O1).alloc O2).alloc O3).cell? ⟨g, 0, none⟩ = some (.slice xa W.length xc) := fun O1 O2 O3 => (((h.box.alloc O1).alloc O2).alloc O3).c0
  have q1 : ∀ O1 O2 O3, (((w.alloc O1).alloc O2).alloc O3).cell? ⟨g, 1, none⟩ = some (.int .i64 t) := fun O1 O2 O3 => (((h.box.alloc O1).alloc O2).alloc O3).c1
  have q2 : ∀ O1 O2 O3, (((w.alloc O1).alloc O2).alloc O3).cell? ⟨g, 2, none⟩ = some (.slice za n zc) := fun O1 O2 O3 => (((h.box.alloc O1).alloc O2).alloc O3).c2
  clear h hL hno
  go_enter_defers Try.func46, Try.ntmps46
  go_wp2_with fail
  generalize hV : (((w.alloc (.cells #[.pointer (some ⟨g, 0, none⟩)] 94)).alloc (.cells #[.slice sa s.length sc, .slice da d.length dc] 32)).alloc (.cells #[.bool false] 4)).alloc (.cells #[.slice xa W.length xc, .int .i64 t, .slice za n zc] 28) = w1
  have B1 : Hid (Below w.heap.size w w1) := by rw [← hV]; exact bAlloc (bAlloc (bAlloc (bAlloc (Below.refl _ _) _) _) _) _
  have PB1 : Hid (PutBox w.heap.size g w1 (.slice xa W.length xc) (.int .i64 t) (.slice za n zc) false) := by rw [← hV]; exact putBox_new w _ _ _ _ _
  have SZ : Hid (w1.heap.size = w.heap.size + 4) := by rw [← hV]; show _ = _; simp
  clear hV x0 x1 x2 q0 q1 q2 nx0 hmf
  refine (CA.out _ B1.out).mono ?_
  rintro r w2 ⟨rfl, hb⟩
  have B2 : Hid (Below w.heap.size w w2) := bTrans B1.out hb
  have PB2 : Hid (PutBox w.heap.size g w2 (.slice xa W.length xc) (.int .i64 t) (.slice za n zc) false) := PB1.out.keep hb
  clear hb B1 PB1
  have d0 := PB2.out.d0
  have df := PB2.out.df
  go_wp2_with fail
  clear d0 df
  have PB3 : Hid (PutBox w.heap.size g (w2.setCell ⟨w.heap.size + 1 + 1, 0, none⟩ (.bool false)) (.slice xa W.length xc) (.int .i64 t) (.slice za n zc) false) := PB2.out.done false
  have hw3 := win_setCell w2 (w.heap.size + 1 + 1) 0 (.bool false)
  have hle := H.out.le
  have X3 : Hid (Box3 (w2.setCell ⟨w.heap.size + 1 + 1, 0, none⟩ (.bool false)) g (.slice xa W.length xc) (.int .i64 t) (.slice za n zc) 28) := (H.out.box.keep B2.out).win hw3 (.inl (by omega))
  have H3 : Hid (HB L F g (w2.setCell ⟨w.heap.size + 1 + 1, 0, none⟩ (.bool false)) (.slice xa W.length xc) (.slice za n zc) W t n E) := H.out.keep (below_setCell B2.out (by omega) _ _)
  have B3 : Hid (Below w.heap.size w (w2.setCell ⟨w.heap.size + 1 + 1, 0, none⟩ (.bool false))) := below_setCell B2.out (by omega) _ _
  generalize w2.setCell ⟨w.heap.size + 1 + 1, 0, none⟩ (.bool false) = w3 at *
  refine leaves_cons (f := 79) (args := #[.pointer (some ⟨w.heap.size + 1 + 1, 0, none⟩), .pointer (some ⟨w.heap.size + 1 + 1 + 1, 0, none⟩), .pointer (some ⟨w.heap.size, 0, none⟩)]) (by simp) (by simp [go_sem]) ?_
  refine (undo_back (x := undef) (y := undef) (z := undef) .returning _ PB3.out.d0 PB3.out.w PB3.out.p0 X3.out).mono ?_
  rintro e u' w4 ⟨rfl, rfl, h4⟩
  have hl0 := HL.out
  have hwin : Win g (g + 1) w3 w4 := by rw [h4]; exact ((win_setCell _ _ _ _).trans (win_setCell _ _ _ _)).trans (win_setCell _ _ _ _)
  have H4 : Hid (HB L F g w4 (.slice xa W.length xc) (.slice za n zc) W t n E) := by rw [h4]; exact H3.out.again
  have B4 : Hid (Below L w w4) := (B3.out.mono hl0).trans (hwin.below (by omega) (Nat.le_trans hl0 B3.out.size))
  have PB4 : Hid (PutBox w.heap.size g w4 (.slice xa W.length xc) (.int .i64 t) (.slice za n zc) false) := PB3.out.stay fun k h1 h2 => hwin.block k (by have := PB3.out.w.lt; omega) (by omega)
  have e0 := PB4.out.d0
  clear h4 hwin
  simp [Leaves, settle, results, Try.results46, go_sem, e0]
  exact ⟨H4.out, B4.out⟩
end Go.Proofs.Ytmmjidhpmbcoiaa
