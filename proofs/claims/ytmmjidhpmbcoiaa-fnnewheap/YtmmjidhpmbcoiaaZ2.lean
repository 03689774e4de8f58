/-
  Several walks, one behind the other: HeapR5, LaysF, SortL.
-/
import Derived.Test.YtmmjidhpmbcoiaaZ1
import Derived.Shelf.SlSortCmp.NoneTotal
import Derived.Test.YtmmjidhpmbcoiaaProg
import Derived.Test.YtmmjidhpmbcoiaaSortF
namespace Go.Proofs.Ytmmjidhpmbcoiaa
open Go.RowKit
set_option linter.unusedVariables false
set_option linter.unusedSimpArgs false
theorem put_any (hS : SortsBy) (hS0 : SortsNone) {L g : Nat} {w : World} {xa za : Option Addr} {xc zc : Nat} {W : List Int} {t : Int} {n : Nat} {E : Nat → Cel} {u : Value} {s d : List Int} (h : HB L (fun _ => False) g w (.slice xa W.length xc) (.slice za n zc) W t n E) (hc : ZCap w (.slice za n zc) n) (hk : hOkB W.length t n E = true) (hL : L ≤ w.heap.size) (ha : ArrI w u s d) (hd : d.length ≤ 1048576) :
    Calls Try.prog 46 #[.pointer (some ⟨g, 0, none⟩), u] w fun e w' => ∃ x z, e = .returned (.tuple #[.int .i64 (outI W t n E s d), .bool (outB W t n E s d)]) ∧ HB L (fun _ => False) g w' x z (outW W t n E s d) (outT W t n E s d) (outN W t n E s d) (outE W t n E s d) ∧ Below L w w' := by
  by_cases aa : arrOk s d = true
  · refine (put_right hS hS0 h hc hk hL ha aa).mono ?_
    rintro e w' ⟨rfl, h1, h2, hb⟩
    by_cases pp : putB W t n E (wsA s d) = true
    · obtain ⟨o1, o2, o3, o4, o5, o6⟩ := out_put (s := s) (d := d) hk aa pp
      obtain ⟨_, _, _, _, _, _, _, h3, _⟩ := h1 pp
      rw [o1, o2, o3, o4, o5, o6, if_pos pp, pp]
      exact ⟨_, _, rfl, h3, hb⟩
    · have pf : putB W t n E (wsA s d) = false := by simpa using pp
      obtain ⟨o1, o2, o3, o4, o5, o6⟩ := out_same (s := s) (d := d) hk (by rw [pf]; simp)
      rw [o1, o2, o3, o4, o5, o6, if_neg pp, pf]
      exact ⟨_, _, rfl, h2 pf, hb⟩
  · have af : arrOk s d = false := by simpa using aa
    refine (put_wrong h hL ha hd af).mono ?_
    rintro e w' ⟨rfl, h1, hb⟩
    obtain ⟨o1, o2, o3, o4, o5, o6⟩ := out_same (s := s) (d := d) hk (by rw [af]; rfl)
    rw [o1, o2, o3, o4, o5, o6]
    exact ⟨_, _, rfl, h1, hb⟩
theorem HX.stored {B C A g : Nat} {w : World} {v x y z : Value} {W : List Int} {t : Int} {n : Nat} {E : Nat → Cel} (h : HX B C w v W t n E) (hg : g < B) (hA : A ≤ B) (hC : C ≤ w.heap.size) : HX A (((w.setCell ⟨g, 0, none⟩ x).setCell ⟨g, 1, none⟩ y).setCell ⟨g, 2, none⟩ z).heap.size (((w.setCell ⟨g, 0, none⟩ x).setCell ⟨g, 1, none⟩ y).setCell ⟨g, 2, none⟩ z) v W t n E := by
  have hw : Win g (g + 1) w (((w.setCell ⟨g, 0, none⟩ x).setCell ⟨g, 1, none⟩ y).setCell ⟨g, 2, none⟩ z) := ((win_setCell _ _ _ _).trans (win_setCell _ _ _ _)).trans (win_setCell _ _ _ _)
  exact (h.win hw (.inr hg)).mono hA (Nat.le_trans hC hw.size)
theorem below_set3 {B g : Nat} {w w' : World} {x y z : Value} (h : Below B w w') (hg : B ≤ g) : Below B w (((w'.setCell ⟨g, 0, none⟩ x).setCell ⟨g, 1, none⟩ y).setCell ⟨g, 2, none⟩ z) :=
  below_setCell (below_setCell (below_setCell h hg _ _) hg _ _) hg _ _
theorem outB_ok {W : List Int} {t : Int} {n : Nat} {E : Nat → Cel} {s d : List Int} (h : outB W t n E s d = true) : hOkB W.length t n E = true := by
  unfold outB at h
  exact (Bool.and_eq_true _ _ ▸ h).1
theorem outW_len {W : List Int} {t : Int} {n : Nat} {E : Nat → Cel} {s d : List Int} (h : W.length ≤ 1048576) : (outW W t n E s d).length ≤ 1048576 := by
  unfold outW
  by_cases hb : outB W t n E s d = true
  · rw [if_pos hb]
    unfold putW
    rw [pst_len, (q_bd (ws := wsA s d) (outB_ok hb)).1]
    exact h
  · rw [if_neg hb]
    split
    · exact h
    · simp
theorem outN_le {W : List Int} {t : Int} {n : Nat} {E : Nat → Cel} {s d : List Int} (h : n ≤ 1048576) : outN W t n E s d ≤ 1048576 := by
  unfold outN
  by_cases hb : outB W t n E s d = true
  · rw [if_pos hb]
    have := (q_bd (ws := wsA s d) (outB_ok hb)).2.2.2.2
    unfold putN
    split <;> omega
  · rw [if_neg hb]
    split
    · exact h
    · omega
set_option maxRecDepth 20000 in
set_option maxHeartbeats 16000000 in
/-- The program's HeapPut. -/
theorem heapPut_impl (hS : SortsBy) (hS0 : SortsNone) {w : World} {v u : Value} {W : List Int} {t : Int} {n : Nat} {E : Nat → Cel} {s d : List Int} (h : HI w v W t n E) (he : (∀ i, in64 (E i).f ∧ in64 (E i).l) ∧ in64 t) (hW : W.length ≤ 1048576) (hn : n ≤ 1048576) (ha : ArrI w u s d) (hd : d.length ≤ 1048576) :
    Calls Try.prog 14 #[v, u] w fun e w' => ∃ v', e = .returned (.tuple #[v', .int .i64 (outI W t n E s d), .bool (outB W t n E s d)]) ∧ HX w.heap.size w'.heap.size w' v' (outW W t n E s d) (outT W t n E s d) (outN W t n E s d) (outE W t n E s d) ∧ Below w.heap.size w w' := by
  have CK : Hid (∀ W', Below w.heap.size w W' → Calls Try.prog 16 #[v] W' fun e w' => e = .returned (.bool (hOkB W.length t n E)) ∧ Below W'.heap.size W' w') := fun W' hb => heapOk_impl hS hS0 (h.keep hb) he hW hn
  have CC : Hid (∀ W', Below w.heap.size w W' → Calls Try.prog 45 #[v] W' fun e w' => ∃ v', e = .returned v' ∧ HP W'.heap.size w'.heap.size w' v' W t n E ∧ CapH w' v' n ∧ Below W'.heap.size W' w') := fun W' hb => heapCopy_impl2 (h.keep hb) hW hn
  have AI : Hid (ArrI w u s d) := ha
  have HS : Hid (SortsBy ∧ SortsNone) := ⟨hS, hS0⟩
  have HD : Hid (d.length ≤ 1048576) := hd
  obtain ⟨wa, wc_, ca, cc, rfl, h1, h2, h3, h4⟩ := h
  obtain ⟨sa, sc, da, dc, rfl, a1, a2, a3, a4⟩ := ha
  have PA : Hid (∀ (L g : Nat) (w5 : World) (xa za : Option Addr) (xc zc : Nat), hOkB W.length t n E = true → HB L (fun _ => False) g w5 (.slice xa W.length xc) (.slice za n zc) W t n E → ZCap w5 (.slice za n zc) n → L ≤ w5.heap.size → Below w.heap.size w w5 → Calls Try.prog 46 #[.pointer (some ⟨g, 0, none⟩), .agg #[.slice sa s.length sc, .slice da d.length dc]] w5 fun e w' => ∃ x z, e = .returned (.tuple #[.int .i64 (outI W t n E s d), .bool (outB W t n E s d)]) ∧ HB L (fun _ => False) g w' x z (outW W t n E s d) (outT W t n E s d) (outN W t n E s d) (outE W t n E s d) ∧ Below L w5 w') :=
    fun L g w5 xa za xc zc kk h hz hl hb => put_any HS.out.1 HS.out.2 h hz kk hl (AI.out.keep hb) HD.out
  have OB0 : Hid (hOkB W.length t n E = false → outB W t n E s d = false ∧ outI W t n E s d = -1 ∧ outW W t n E s d = [] ∧ outT W t n E s d = 0 ∧ outN W t n E s d = 0 ∧ outE W t n E s d = E) := out_bad
  generalize outI W t n E s d = OI at *
  generalize outB W t n E s d = OB at *
  generalize outW W t n E s d = OW at *
  generalize outT W t n E s d = OT at *
  generalize outN W t n E s d = ON at *
  generalize outE W t n E s d = OE at *
  clear h1 h2 h3 h4 he a1 a2 a3 a4 hS hS0 hd
  go_enter Try.func14, Try.ntmps14
  go_wp2_with fail
  generalize hV : ((w.alloc (.cells #[.slice wa W.length wc_, .int .i64 t, .slice ca n cc] 28)).alloc (.cells #[.slice sa s.length sc, .slice da d.length dc] 32)).alloc (.cells #[.slice none 0 0, .int .i64 0, .slice none 0 0] 28) = w1
  have B1 : Hid (Below w.heap.size w w1) := by rw [← hV]; exact bAlloc (bAlloc (bAlloc (Below.refl _ _) _) _) _
  have X1 : Hid (Box3 w1 w.heap.size (.slice wa W.length wc_) (.int .i64 t) (.slice ca n cc) 28) := by rw [← hV]; exact ((box3_new _ _ _ _ _).alloc _).alloc _
  have A1 : Hid (Box w1 (w.heap.size + 1) (.slice sa s.length sc) (.slice da d.length dc) 32) := by
    have := box_new (w.alloc (.cells #[.slice wa W.length wc_, .int .i64 t, .slice ca n cc] 28)) (.slice sa s.length sc) (.slice da d.length dc) 32
    show Box _ _ _ _ _
    rw [← hV]
    exact (Box.keep (by simpa using this) (bAlloc (Below.refl _ _) _))
  have Y1 : Hid (Box3 w1 (w.heap.size + 1 + 1) (.slice none 0 0) (.int .i64 0) (.slice none 0 0) 28) := by
    have := box3_new ((w.alloc (.cells #[.slice wa W.length wc_, .int .i64 t, .slice ca n cc] 28)).alloc (.cells #[.slice sa s.length sc, .slice da d.length dc] 32)) (.slice none 0 0) (.int .i64 0) (.slice none 0 0) 28
    show Box3 _ _ _ _ _ _
    rw [← hV]; simpa using this
  clear hV
  refine (CK.out _ B1.out).mono ?_
  rintro r w2 ⟨rfl, hb⟩
  have B2 : Hid (Below w.heap.size w w2) := bTrans B1.out hb
  have X2 : Hid (Box3 w2 w.heap.size (.slice wa W.length wc_) (.int .i64 t) (.slice ca n cc) 28) := X1.out.keep hb
  have A2 : Hid (Box w2 (w.heap.size + 1) (.slice sa s.length sc) (.slice da d.length dc) 32) := A1.out.keep hb
  have Y2 : Hid (Box3 w2 (w.heap.size + 1 + 1) (.slice none 0 0) (.int .i64 0) (.slice none 0 0) 28) := Y1.out.keep hb
  clear hb B1 X1 A1 Y1
  by_cases kk : hOkB W.length t n E = true
  case neg =>
    have e1 : hOkB W.length t n E = false := by simpa using kk
    rw [e1]
    obtain ⟨o1, o2, o3, o4, o5, o6⟩ := OB0.out e1
    subst o1 o2 o3 o4 o5
    have r0 := Y2.out.c0
    have r1 := Y2.out.c1
    have r2 := Y2.out.c2
    have f0 := Y2.out.free 0
    have f1 := Y2.out.free 1
    have f2 := Y2.out.free 2
    go_wp2
    clear r0 r1 r2 f0 f1 f2
    generalize hZ : ((w2.setCell ⟨w.heap.size + 1 + 1, 0, none⟩ (.slice none 0 0)).setCell ⟨w.heap.size + 1 + 1, 1, none⟩ (.int .i64 0)).setCell ⟨w.heap.size + 1 + 1, 2, none⟩ (.slice none 0 0) = wz
    have YZ : Box3 wz (w.heap.size + 1 + 1) (.slice none 0 0) (.int .i64 0) (.slice none 0 0) 28 := by rw [← hZ]; exact ((Y2.out.set0 _).set1 _).set2 _
    have BZ : Below w.heap.size w wz := by rw [← hZ]; exact below_setCell (below_setCell (below_setCell B2.out (by omega) _ _) (by omega) _ _) (by omega) _ _
    have v0 := YZ.c0
    have v1 := YZ.c1
    have v2 := YZ.c2
    refine bodyPost_ret (v := .tuple #[.agg #[(.slice none 0 0), .int .i64 0, (.slice none 0 0)], .int .i64 (-1), .bool false]) (by simp [results, Try.results14, go_sem, v0, v1, v2]) rfl ?_
    exact ⟨_, rfl, (HP.zero _ _ BZ.size _ _).hx, BZ⟩
  case pos =>
  have x0 := X2.out.c0
  have x1 := X2.out.c1
  have x2 := X2.out.c2
  rw [kk]
  go_wp2_with fail
  refine (CC.out _ B2.out).mono ?_
  rintro r w4 ⟨v', rfl, hP, hcap, hb⟩
  have L2 := Y2.out.lt
  obtain ⟨L, hLe, hP⟩ := ex_eq hP
  have B4 : Hid (Below w.heap.size w w4) := bTrans B2.out hb
  have A4 : Hid (Box w4 (w.heap.size + 1) (.slice sa s.length sc) (.slice da d.length dc) 32) := A2.out.keep hb
  have Y4 : Hid (Box3 w4 (w.heap.size + 1 + 1) (.slice none 0 0) (.int .i64 0) (.slice none 0 0) 28) := Y2.out.keep hb
  have LL : Hid (w.heap.size + 1 + 1 < L ∧ L ≤ w4.heap.size) := ⟨by omega, by rw [hLe]; exact hb.size⟩
  obtain ⟨xa, xc, za, zc, rfl⟩ := hP.form
  have P4 : Hid (HX L w4.heap.size w4 (.agg #[.slice xa W.length xc, .int .i64 t, .slice za n zc]) W t n E) := hP.hx
  have Z4 : Hid (ZCap w4 (.slice za n zc) n) := HX.zcap (B := 0) (C := 0) (W := W) (t := t) (E := E) hcap
  clear hb hP hcap hLe x0 x1 x2 B2 X2 A2 Y2
  have a0 : ∀ O : Obj, (w4.alloc O).cell? ⟨w.heap.size + 1, 0, none⟩ = some (.slice sa s.length sc) := fun O => (A4.out.keep (bAlloc (Below.refl _ _) O)).c0
  have a1 : ∀ O : Obj, (w4.alloc O).cell? ⟨w.heap.size + 1, 1, none⟩ = some (.slice da d.length dc) := fun O => (A4.out.keep (bAlloc (Below.refl _ _) O)).c1
  go_wp2_with fail
  generalize hV : w4.alloc (.cells #[.slice xa W.length xc, .int .i64 t, .slice za n zc] 28) = w5
  have b45 : Below w4.heap.size w4 w5 := by rw [← hV]; exact bAlloc (Below.refl _ _) _
  have X5 : Box3 w5 w4.heap.size (.slice xa W.length xc) (.int .i64 t) (.slice za n zc) 28 := by rw [← hV]; exact box3_new _ _ _ _ _
  have s45 : w4.heap.size ≤ w5.heap.size := b45.size
  have H5 : Hid (HB L (fun _ => False) w4.heap.size w5 (.slice xa W.length xc) (.slice za n zc) W t n E) := HB.lay (P4.out.keep b45) X5 s45 (.inr (Nat.le_refl _)) ⟨LL.out.2, Nat.le_refl _⟩ fun k hk => hk.elim
  have B5 : Hid (Below w.heap.size w w5) := bTrans B4.out b45
  have Y5 : Hid (Box3 w5 (w.heap.size + 1 + 1) (.slice none 0 0) (.int .i64 0) (.slice none 0 0) 28) := Y4.out.keep b45
  have CP := PA.out L w4.heap.size w5 xa za xc zc kk H5.out (Z4.out.keep b45) (Nat.le_trans LL.out.2 s45) B5.out
  clear hV b45 X5 a0 a1 P4 Z4 H5 B4 A4 Y4
  refine CP.mono ?_
  rintro r w6 ⟨x, z, rfl, hH, hb⟩
  obtain ⟨ya, yc, ua, uc, rfl, rfl⟩ := hH.form
  have X6 : Hid (HX L w6.heap.size w6 (.agg #[.slice ya OW.length yc, .int .i64 OT, .slice ua ON uc]) OW OT ON OE) := hH.hx
  have F6 := hH.box
  have hb6 : Below w.heap.size w5 w6 := hb.mono (by have := LL.out; omega)
  have B6 : Hid (Below w.heap.size w w6) := B5.out.trans hb6
  have Y6 : Hid (Box3 w6 (w.heap.size + 1 + 1) (.slice none 0 0) (.int .i64 0) (.slice none 0 0) 28) := by
    show w6.heap[_]? = _
    rw [hb.block _ LL.out.1]
    exact Y5.out
  clear CP hb hb6
  have q0 := F6.c0
  have q1 := F6.c1
  have q2 := F6.c2
  clear F6 hH
  have r0 := Y6.out.c0
  have r1 := Y6.out.c1
  have r2 := Y6.out.c2
  have f0 := Y6.out.free 0
  have f1 := Y6.out.free 1
  have f2 := Y6.out.free 2
  go_wp2
  clear r0 r1 r2 f0 f1 f2 q0 q1 q2
  generalize hZ : ((w6.setCell ⟨w.heap.size + 1 + 1, 0, none⟩ (.slice ya OW.length yc)).setCell ⟨w.heap.size + 1 + 1, 1, none⟩ (.int .i64 OT)).setCell ⟨w.heap.size + 1 + 1, 2, none⟩ (.slice ua ON uc) = wz
  have YZ : Box3 wz (w.heap.size + 1 + 1) (.slice ya OW.length yc) (.int .i64 OT) (.slice ua ON uc) 28 := by rw [← hZ]; exact ((Y6.out.set0 _).set1 _).set2 _
  have WZ : Win (w.heap.size + 1 + 1) (w.heap.size + 1 + 1 + 1) w6 wz := by rw [← hZ]; exact ((win_setCell _ _ _ _).trans (win_setCell _ _ _ _)).trans (win_setCell _ _ _ _)
  have BZ : Below w.heap.size w wz := by rw [← hZ]; exact below_setCell (below_setCell (below_setCell B6.out (by omega) _ _) (by omega) _ _) (by omega) _ _
  have v0 := YZ.c0
  have v1 := YZ.c1
  have v2 := YZ.c2
  have ll := LL.out
  refine bodyPost_ret (v := .tuple #[.agg #[.slice ya OW.length yc, .int .i64 OT, .slice ua ON uc], .int .i64 OI, .bool OB]) (by simp [results, Try.results14, go_sem, v0, v1, v2]) rfl ?_
  exact ⟨_, rfl, (X6.out.win WZ (.inr (by omega))).mono (by omega) WZ.size, BZ⟩
end Go.Proofs.Ytmmjidhpmbcoiaa
namespace Go.Proofs
open Go.Shelf
def Try.sortL_ren : Go.Shelf.Ren := ⟨fun | 6 => 84 | 15 => 106 | 14 => 105 | 28 => 124 | 29 => 125 | 20 => 116 | 21 => 117 | 22 => 118 | 23 => 119 | 24 => 120 | 25 => 121 | 26 => 122 | 27 => 123 | 46 => 126 | 47 => 127 | 48 => 128 | 49 => 129 | 50 => 130 | 57 => 131 | n => n, fun | 22 => 25 | 24 => 3 | 25 => 99 | 3 => 3 | 39 => 110 | 0 => 0 | 53 => 133 | 55 => 135 | 4 => 4 | 46 => 127 | 45 => 126 | 50 => 70 | 5 => 5 | 9 => 9 | 66 => 136 | 70 => 140 | 76 => 142 | 77 => 143 | n => n, fun | n => n⟩
theorem Try.sortL : Go.Proofs.SlLaysF.n6 Try.prog Try.sortL_ren := {
  mixed := by kernel_rfl
  f6 := ⟨Try.f84.name, by decide, Try.func84.trans (congrArg some (by kernel_rfl))⟩
  f14 := ⟨Try.f105.name, by decide, Try.func105.trans (congrArg some (by kernel_rfl))⟩
  f15 := Try.func106.trans (congrArg some (by kernel_rfl))
  f20 := ⟨Try.f116.name, by decide, Try.func116.trans (congrArg some (by kernel_rfl))⟩
  f21 := ⟨Try.f117.name, by decide, Try.func117.trans (congrArg some (by kernel_rfl))⟩
  f22 := ⟨Try.f118.name, by decide, Try.func118.trans (congrArg some (by kernel_rfl))⟩
  f23 := ⟨Try.f119.name, by decide, Try.func119.trans (congrArg some (by kernel_rfl))⟩
  f24 := ⟨Try.f120.name, by decide, Try.func120.trans (congrArg some (by kernel_rfl))⟩
  f25 := ⟨Try.f121.name, by decide, Try.func121.trans (congrArg some (by kernel_rfl))⟩
  f26 := ⟨Try.f122.name, by decide, Try.func122.trans (congrArg some (by kernel_rfl))⟩
  f27 := ⟨Try.f123.name, by decide, Try.func123.trans (congrArg some (by kernel_rfl))⟩
  f28 := Try.func124.trans (congrArg some (by kernel_rfl))
  f29 := Try.func125.trans (congrArg some (by kernel_rfl))
  f46 := ⟨Try.f126.name, by decide, Try.func126.trans (congrArg some (by kernel_rfl))⟩
  f47 := Try.func127.trans (congrArg some (by kernel_rfl))
  f48 := Try.func128.trans (congrArg some (by kernel_rfl))
  f49 := ⟨Try.f129.name, by decide, Try.func129.trans (congrArg some (by kernel_rfl))⟩
  f50 := ⟨Try.f130.name, by decide, Try.func130.trans (congrArg some (by kernel_rfl))⟩
  f57 := ⟨Try.f131.name, by decide, Try.func131.trans (congrArg some (by kernel_rfl))⟩
  t0 := Try.underlying0
  a0 := Try.isAgg0
  z0 := Try.sizeOf0
  v0 := Try.zeroValue0
  t3 := Try.underlying3
  a3 := Try.isAgg3
  z3 := Try.sizeOf3
  v3 := Try.zeroValue3
  t4 := Try.underlying4
  a4 := Try.isAgg4
  z4 := Try.sizeOf4
  v4 := Try.zeroValue4
  t5 := Try.underlying5
  a5 := Try.isAgg5
  z5 := Try.sizeOf5
  v5 := Try.zeroValue5
  t9 := Try.underlying9
  a9 := Try.isAgg9
  z9 := Try.sizeOf9
  v9 := Try.zeroValue9
  t22 := Try.underlying25
  a22 := Try.isAgg25
  z22 := Try.sizeOf25
  v22 := Try.zeroValue25
  a24 := Try.isAgg3
  z24 := Try.sizeOf3
  t25 := Try.underlying99
  a25 := Try.isAgg99
  z25 := Try.sizeOf99
  v25 := Try.zeroValue99
  t39 := Try.underlying110
  a39 := Try.isAgg110
  z39 := Try.sizeOf110
  v39 := Try.zeroValue110
  t45 := Try.underlying126
  a45 := Try.isAgg126
  z45 := Try.sizeOf126
  v45 := Try.zeroValue126
  t46 := Try.underlying127
  a46 := Try.isAgg127
  z46 := Try.sizeOf127
  v46 := Try.zeroValue127
  t50 := Try.underlying70
  a50 := Try.isAgg70
  z50 := Try.sizeOf70
  v50 := Try.zeroValue70
  t53 := Try.underlying133
  a53 := Try.isAgg133
  z53 := Try.sizeOf133
  v53 := Try.zeroValue133
  t55 := Try.underlying135
  a55 := Try.isAgg135
  z55 := Try.sizeOf135
  v55 := Try.zeroValue135
  t66 := Try.underlying136
  a66 := Try.isAgg136
  z66 := Try.sizeOf136
  v66 := Try.zeroValue136
  t70 := Try.underlying140
  a70 := Try.isAgg140
  z70 := Try.sizeOf140
  v70 := Try.zeroValue140
  t76 := Try.underlying142
  a76 := Try.isAgg142
  z76 := Try.sizeOf142
  v76 := Try.zeroValue142
  t77 := Try.underlying143
  a77 := Try.isAgg143
  z77 := Try.sizeOf143
  v77 := Try.zeroValue143 }
end Go.Proofs
namespace Go.Proofs.Ytmmjidhpmbcoiaa
open Go.RowKit Go.Sort Go.Shelf
theorem sorts_by : SortsBy := fun _ _ cf hO g cb blk cap d w eg hc hH hb hl => Any.slices_SortFunc Try.sortL encF (fun _ => rfl) cf hO g cb blk 0 cap d w eg hc hH hb hl
theorem sorts_none : SortsNone := fun p cap fv w => AnyF.slices_SortFunc_none (P := Try.prog) (ρ := Try.sortL_ren) { Try.sortL with } p cap fv w
end Go.Proofs.Ytmmjidhpmbcoiaa
