/-
  Plain: what is got; walks: the specification's HeapGet.
-/
import Derived.Test.YtfmfppndcbmohaaHeapT
import Derived.Test.YtfmfppndcbmohaaSpecArr
import Derived.Deep.Cut
namespace Go.Proofs.Ytfmfppndcbmohaa
open Go.RowKit
set_option linter.unusedVariables false
set_option linter.unusedSimpArgs false
/-- The array that words are, if they are one. -/
def arrOf (ws : List Int) : Option (List Int × List Int) :=
  if 0 ≤ ws.getD 0 0 ∧ ws.getD 0 0 ≤ (ws.length : Int) - 1 then
    (if arrOk ((ws.drop 1).take (ws.getD 0 0).toNat) (ws.drop (1 + (ws.getD 0 0).toNat)) = true then some ((ws.drop 1).take (ws.getD 0 0).toNat, ws.drop (1 + (ws.getD 0 0).toNat)) else none)
  else none
/-- The array under a handle. -/
noncomputable def gO (W : List Int) (t : Int) (n : Nat) (E : Nat → Cel) (i : Int) : Option (List Int × List Int) := if hOkB W.length t n E = true ∧ liveB n E i = true then arrOf (wds W (E i.toNat)) else none
noncomputable def gS (W : List Int) (t : Int) (n : Nat) (E : Nat → Cel) (i : Int) : List Int := ((gO W t n E i).getD ([], [])).1
noncomputable def gD (W : List Int) (t : Int) (n : Nat) (E : Nat → Cel) (i : Int) : List Int := ((gO W t n E i).getD ([], [])).2
noncomputable def gB (W : List Int) (t : Int) (n : Nat) (E : Nat → Cel) (i : Int) : Bool := (gO W t n E i).isSome
theorem gO_none {W : List Int} {t : Int} {n : Nat} {E : Nat → Cel} {i : Int} (h : gO W t n E i = none) : gS W t n E i = [] ∧ gD W t n E i = [] ∧ gB W t n E i = false := by simp [gS, gD, gB, h]
theorem gO_some {W : List Int} {t : Int} {n : Nat} {E : Nat → Cel} {i : Int} {s d : List Int} (h : gO W t n E i = some (s, d)) : gS W t n E i = s ∧ gD W t n E i = d ∧ gB W t n E i = true := by simp [gS, gD, gB, h]
theorem box_top {W : World} {g : Nat} {x y : Value} {t : TypeId} (h : W.heap.size = g) : Box (W.alloc (.cells #[x, y] t)) g x y t := by subst h; exact heap_alloc_new _ _
theorem box_pack {W1 wx : World} {A : Nat} {x y v : Value} {t : TypeId} {S : List Int} (h : Box W1 A x y t) (hb : Below W1.heap.size W1 wx) (hp : Piece W1.heap.size wx.heap.size wx v S) : Box wx A x y t ∧ ∃ lo, A < lo ∧ Piece lo wx.heap.size wx v S := ⟨h.keep hb, W1.heap.size, h.lt, hp⟩
theorem piece_set2 {B C A : Nat} {w : World} {v : Value} {l : List Int} (h : Piece B C w v l) (hd : C ≤ A ∨ A + 1 ≤ B) (a b : Value) : Piece B C ((w.setCell ⟨A, 0, none⟩ a).setCell ⟨A, 1, none⟩ b) v l := (h.win (win_setCell w A 0 a) hd).win (win_setCell _ A 1 b) hd
theorem fin_old {V A lo hx : Nat} {wy : World} {X Y x0 y0 : Value} {S D : List Int} (hV : V ≤ A) (bx : Box wy A x0 y0 45) (hlo : A < lo) (px : Piece lo hx wy X S) (hA : A < hx) (hh : hx ≤ wy.heap.size) (py : Piece hx wy.heap.size wy Y D) :
    Box ((wy.setCell ⟨A, 0, none⟩ X).setCell ⟨A, 1, none⟩ Y) A X Y 45 ∧ Arr V ((wy.setCell ⟨A, 0, none⟩ X).setCell ⟨A, 1, none⟩ Y).heap.size ((wy.setCell ⟨A, 0, none⟩ X).setCell ⟨A, 1, none⟩ Y) (.agg #[X, Y]) S D :=
  ⟨arr_stored bx, _, _, rfl, (piece_set2 (A := A) px (.inr (by omega)) X Y).mono (by omega) (by simp only [size_setCell]; omega), (piece_set2 (A := A) py (.inr (by omega)) X Y).mono (by omega) (by simp only [size_setCell]; omega), (piece_set2 (A := A) px (.inr (by omega)) X Y).apart (piece_set2 (A := A) py (.inr (by omega)) X Y) (.inl (Nat.le_refl _))⟩
theorem fin_mid {V A lo hx : Nat} {wy : World} {X Y x0 y0 : Value} {S D : List Int} (hV : V ≤ hx) (bx : Box wy A x0 y0 45) (hA : hx ≤ A) (px : Piece V hx wy X S) (hlo : A < lo) (hh : hx ≤ wy.heap.size) (py : Piece lo wy.heap.size wy Y D) :
    Box ((wy.setCell ⟨A, 0, none⟩ X).setCell ⟨A, 1, none⟩ Y) A X Y 45 ∧ Arr V ((wy.setCell ⟨A, 0, none⟩ X).setCell ⟨A, 1, none⟩ Y).heap.size ((wy.setCell ⟨A, 0, none⟩ X).setCell ⟨A, 1, none⟩ Y) (.agg #[X, Y]) S D :=
  ⟨arr_stored bx, _, _, rfl, (piece_set2 (A := A) px (.inl hA) X Y).mono (by omega) (by simp only [size_setCell]; omega), (piece_set2 (A := A) py (.inr (by omega)) X Y).mono (by omega) (by simp only [size_setCell]; omega), (piece_set2 (A := A) px (.inl hA) X Y).apart (piece_set2 (A := A) py (.inr (by omega)) X Y) (.inl (by omega))⟩
theorem fin_new {V hx : Nat} {wy : World} {X Y : Value} {S D : List Int} (hV : V ≤ hx) (px : Piece V hx wy X S) (hh : hx ≤ wy.heap.size) (py : Piece hx wy.heap.size wy Y D) :
    Box (wy.alloc (.cells #[X, Y] 45)) wy.heap.size X Y 45 ∧ Arr V (wy.alloc (.cells #[X, Y] 45)).heap.size (wy.alloc (.cells #[X, Y] 45)) (.agg #[X, Y]) S D :=
  have b := bAlloc (Below.refl wy.heap.size wy) (.cells #[X, Y] 45)
  ⟨heap_alloc_new _ _, _, _, rfl, (px.keep b).mono (Nat.le_refl _) (by simp; omega), (py.keep b).mono hV (by simp), (px.keep b).apart (py.keep b) (.inl (Nat.le_refl _))⟩
set_option maxRecDepth 20000 in
set_option maxHeartbeats 16000000 in
theorem heapGet_spec {w : World} {v : Value} {W : List Int} {t : Int} {n : Nat} {E : Nat → Cel} (i : Int) (h : HI w v W t n E) (he : (∀ i, in64 (E i).f ∧ in64 (E i).l) ∧ in64 t) (hW : W.length ≤ 1048576) (hn : n ≤ 1048576) :
    Calls Try.prog 28 #[v, .int .i64 i] w fun e w' => ∃ v', e = .returned (.tuple #[v', .bool (gB W t n E i)]) ∧ Arr w.heap.size w'.heap.size w' v' (gS W t n E i) (gD W t n E i) ∧ Below w.heap.size w w' := by
  have CK : Hid (∀ W', Below w.heap.size w W' → Calls Try.prog 10 #[v] W' fun e w' => e = .returned (.bool (hOkB W.length t n E)) ∧ Below W'.heap.size W' w') := fun W' hb => heapOk_spec (h.keep hb) he hW hn
  have CL : Hid (∀ W', Below w.heap.size w W' → Calls Try.prog 53 #[v, .int .i64 i] W' fun e w' => e = .returned (.bool (liveB n E i)) ∧ Below W'.heap.size W' w') := fun W' hb => live_spec (h.keep hb) i hn
  obtain ⟨wa, wc, ca, cc, rfl, h1, h2, h3, h4⟩ := h
  have H1 : Hid (Ints w wa W) := h1
  have H1c : W.length ≤ wc := h2
  have H3 : Hid (CsA w ca n E) := h3
  have HE : Hid ((∀ i, in64 (E i).f ∧ in64 (E i).l) ∧ in64 t) := he
  clear h1 h2 h3 h4 he
  go_enter Try.func28, Try.ntmps28
  go_wp2_with fail
  generalize hV : (w.alloc (.cells #[.slice wa W.length wc, .int .i64 t, .slice ca n cc] 30)).alloc (.cells #[.slice none 0 0, .slice none 0 0] 45) = V
  have B1 : Hid (Below w.heap.size w V) := by rw [← hV]; exact bAlloc (bAlloc (Below.refl _ _) _) _
  have X1 : Hid (Box3 V w.heap.size (.slice wa W.length wc) (.int .i64 t) (.slice ca n cc) 30) := by rw [← hV]; exact (box3_new _ _ _ _ _).alloc _
  have Y1 : Hid (Box V (w.heap.size + 1) (.slice none 0 0) (.slice none 0 0) 45) := by rw [← hV]; exact heap_alloc2_new w _ _
  clear hV
  refine (CK.out _ B1.out).mono ?_
  rintro r w2 ⟨rfl, hb⟩
  have B2 : Hid (Below w.heap.size w w2) := bTrans B1.out hb
  have X2 : Hid (Box3 w2 w.heap.size (.slice wa W.length wc) (.int .i64 t) (.slice ca n cc) 30) := X1.out.keep hb
  have Y2 : Hid (Box w2 (w.heap.size + 1) (.slice none 0 0) (.slice none 0 0) 45) := Y1.out.keep hb
  clear hb B1 X1 Y1
  by_cases kk : hOkB W.length t n E = true
  case neg =>
    obtain ⟨e1, e2, e3⟩ := gO_none (W := W) (t := t) (n := n) (E := E) (i := i) (by unfold gO; rw [if_neg (fun h => kk h.1)])
    rw [show hOkB W.length t n E = false by simpa using kk]
    have r0 := Y2.out.c0
    have r1 := Y2.out.c1
    have f0 : w2.frozen? ⟨w.heap.size + 1, 0, none⟩ = false := free_at Y2.out 0
    have f1 : w2.frozen? ⟨w.heap.size + 1, 1, none⟩ = false := free_at Y2.out 1
    go_wp2
    refine bodyPost_ret (results_arr_tmp Try.results28 _ _ (w.heap.size + 1) _ _ rfl (arr_stored Y2.out)) rfl ?_
    rw [e1, e2, e3]
    exact ⟨_, rfl, arr_zero _ _ _, below_setCell (below_setCell B2.out (by omega) _ _) (by omega) _ _⟩
  case pos =>
  have OK : Hid (hOk W.length t n E) := hOkB_iff.1 kk
  have x0 := X2.out.c0
  have x1 := X2.out.c1
  have x2 := X2.out.c2
  rw [kk]
  go_wp2_with fail
  refine (CL.out _ B2.out).mono ?_
  rintro r w3 ⟨rfl, hb⟩
  have B3 : Hid (Below w.heap.size w w3) := bTrans B2.out hb
  have X3 : Hid (Box3 w3 w.heap.size (.slice wa W.length wc) (.int .i64 t) (.slice ca n cc) 30) := X2.out.keep hb
  have Y3 : Hid (Box w3 (w.heap.size + 1) (.slice none 0 0) (.slice none 0 0) 45) := Y2.out.keep hb
  clear hb B2 X2 Y2 x0 x1 x2 CK CL
  by_cases ll : liveB n E i = true
  case neg =>
    obtain ⟨e1, e2, e3⟩ := gO_none (W := W) (t := t) (n := n) (E := E) (i := i) (by unfold gO; rw [if_neg (fun h => ll h.2)])
    rw [show liveB n E i = false by simpa using ll]
    have r0 := Y3.out.c0
    have r1 := Y3.out.c1
    have f0 : w3.frozen? ⟨w.heap.size + 1, 0, none⟩ = false := free_at Y3.out 0
    have f1 : w3.frozen? ⟨w.heap.size + 1, 1, none⟩ = false := free_at Y3.out 1
    go_wp2
    refine bodyPost_ret (results_arr_tmp Try.results28 _ _ (w.heap.size + 1) _ _ rfl (arr_stored Y3.out)) rfl ?_
    rw [e1, e2, e3]
    exact ⟨_, rfl, arr_zero _ _ _, below_setCell (below_setCell B3.out (by omega) _ _) (by omega) _ _⟩
  case pos =>
  obtain ⟨k, rfl⟩ : ∃ k : Nat, i = (k : Int) := ⟨i.toNat, by unfold liveB at ll; simp at ll; omega⟩
  have hlv : k < n ∧ (E k).v = true := by unfold liveB at ll; simp at ll; omega
  have fk := (OK.out.2.2.2.2.1 k hlv.1).2 hlv.2
  have tw := OK.out.2.2.1
  obtain ⟨o, off, rfl, ho, p0, p1, p2⟩ := (H3.out.keep B3.out).at hlv.1
  rw [ll]
  have GO : Hid (gO W t n E (k : Int) = arrOf (wds W (E k))) := by show _ = _; unfold gO; rw [if_pos ⟨kk, ll⟩]; simp
  obtain ⟨F, hF⟩ : ∃ F : Nat, (E k).f = (F : Int) := ⟨(E k).f.toNat, by omega⟩
  obtain ⟨L, hL⟩ : ∃ L : Nat, (E k).l = (L : Int) := ⟨(E k).l.toNat, by omega⟩
  have WD : Hid (wds W (E k) = (W.drop F).take L) := by show _ = _; unfold wds; rw [hF, hL]; simp
  rw [hF, hL] at fk
  rw [hF] at p0
  rw [hL] at p1
  rw [hlv.2] at p2
  have k1 : (k : Int) < (n : Int) := by omega
  rw [WD.out] at GO
  obtain ⟨a1, c1, hs1, hc1, i1⟩ := ints_mid (F := F) (L := L) H1.out H1c (by omega)
  obtain ⟨ws, hws⟩ : ∃ ws, ws = (W.drop F).take L := ⟨_, rfl⟩
  rw [← hws] at GO i1
  have lw : ws.length = L := by rw [hws]; simp; omega
  have I1 : Hid (Ints w a1 ws) := i1
  obtain ⟨b1, o1, rfl, hb1, q0⟩ := (i1.keep B3.out).at (k := 0) (by omega)
  rw [Nat.add_zero] at q0
  have GO2 := GO.out
  unfold arrOf at GO2
  rw [lw] at GO2
  generalize hr : ws.getD 0 0 = r at *
  clear hws WD
  have hw9 : IntKind.i64.wrap ((F : Int) + (L : Int)) = (F : Int) + (L : Int) := by rw [IntKind.wrap_i64]; omega
  have hw8 : IntKind.i64.wrap ((L : Int) - 1) = (L : Int) - 1 := by rw [IntKind.wrap_i64]; omega
  have x0 := X3.out.c0
  have x2 := X3.out.c2
  have y0 : ∀ ob : Obj, (w3.alloc ob).cell? ⟨w.heap.size, 0, none⟩ = some (.slice wa W.length wc) := fun ob => (X3.out.alloc ob).c0
  have y2 : ∀ ob : Obj, (w3.alloc ob).cell? ⟨b1, o1, none⟩ = some (.int .i64 r) := fun ob => ((bAlloc (Below.refl w3.heap.size w3) ob).cell (p := ⟨b1, o1, none⟩) hb1).trans q0
  have L1 : (0 : Int) < (L : Int) := by omega
  by_cases rr : 0 ≤ r ∧ r ≤ (L : Int) - 1
  case neg =>
    rw [if_neg rr] at GO2
    obtain ⟨e1, e2, e3⟩ := gO_none GO2
    have hq : (decide ((0 : Int) ≤ r) && decide (r ≤ (L : Int) - 1)) = false := by simp; omega
    have r0 : ∀ ob : Obj, (w3.alloc ob).cell? ⟨w.heap.size + 1, 0, none⟩ = some (.slice none 0 0) := fun ob => (Y3.out.keep (bAlloc (Below.refl _ _) ob)).c0
    have r1 : ∀ ob : Obj, (w3.alloc ob).cell? ⟨w.heap.size + 1, 1, none⟩ = some (.slice none 0 0) := fun ob => (Y3.out.keep (bAlloc (Below.refl _ _) ob)).c1
    have f0 : ∀ ob : Obj, (w3.alloc ob).frozen? ⟨w.heap.size + 1, 0, none⟩ = false := fun ob => free_at (Y3.out.keep (bAlloc (Below.refl _ _) ob)) 0
    have f1 : ∀ ob : Obj, (w3.alloc ob).frozen? ⟨w.heap.size + 1, 1, none⟩ = false := fun ob => free_at (Y3.out.keep (bAlloc (Below.refl _ _) ob)) 1
    go_wp2_with (go_at_call 33; refine (in_spec _ _ _ _).mono ?_; rintro r w1 ⟨rfl, hw⟩; subst w1; rw [hq])
    refine bodyPost_ret (results_arr_tmp Try.results28 _ _ (w.heap.size + 1) _ _ rfl (arr_stored (Y3.out.keep (bAlloc (Below.refl _ _) _)))) rfl ?_
    rw [e1, e2, e3]
    exact ⟨_, rfl, arr_zero _ _ _, below_setCell (below_setCell (bAlloc B3.out _) (by omega) _ _) (by omega) _ _⟩
  case pos =>
  rw [if_pos rr] at GO2
  have hq : (decide ((0 : Int) ≤ r) && decide (r ≤ (L : Int) - 1)) = true := by simp; omega
  obtain ⟨R, rfl⟩ : ∃ R : Nat, r = (R : Int) := ⟨r.toNat, by omega⟩
  rw [Int.toNat_natCast] at GO2
  go_wp2_with (go_at_call 33; refine (in_spec _ _ _ _).mono ?_; rintro r w1 ⟨rfl, hw⟩; subst w1; rw [hq])
  clear x0 x2 y0 p0 p1 p2 hs1
  generalize hV4 : w3.alloc (.cells #[.int .i64 (F : Int), .int .i64 (L : Int), .bool true] 58) = V
  have B4 : Hid (Below w.heap.size w V) := by rw [← hV4]; exact bAlloc B3.out _
  have Y4 : Hid (Box V (w.heap.size + 1) (.slice none 0 0) (.slice none 0 0) 45) := by rw [← hV4]; exact Y3.out.keep (bAlloc (Below.refl _ _) _)
  have q4 : V.cell? ⟨b1, o1, none⟩ = some (.int .i64 (R : Int)) := by rw [← hV4]; exact y2 _
  have LB : Hid (b1 < V.heap.size) := by rw [← hV4]; show _ < _; simp; omega
  clear hV4 y2 q0 X3 Y3 B3
  obtain ⟨a2, c2, hs2, hc2, i2⟩ := ints_mid (F := 1) (L := R) I1.out (by rw [lw]; exact hc1) (by omega)
  obtain ⟨a3, c3, hs3, i3⟩ := ints_fromH (M := 1 + R) I1.out (by rw [lw]; exact hc1) (by omega)
  rw [lw] at hs2 hs3
  obtain ⟨S, hS⟩ : ∃ S, S = (ws.drop 1).take R := ⟨_, rfl⟩
  obtain ⟨D, hD⟩ : ∃ D, D = ws.drop (1 + R) := ⟨_, rfl⟩
  rw [← hS] at i2 GO2
  rw [← hD] at i3 hs3 GO2
  have lS : S.length = R := by rw [hS]; simp; omega
  have lD : D.length ≤ 1048576 := by rw [hD]; simp; omega
  have g2 : ∀ W, (Instr.slice 22 (.slice (some ⟨b1, o1, none⟩) L c1) (some (.int .i64 1)) (some (.int .i64 (1 + (R : Int)))) none).run Try.prog W = .ok (.slice a2 S.length c2) W := fun W => by rw [lS]; exact hs2 W
  have g3 : ∀ W, (Instr.slice 22 (.slice (some ⟨b1, o1, none⟩) L c1) (some (.int .i64 (1 + (R : Int)))) none none).run Try.prog W = .ok (.slice a3 D.length c3) W := fun W => by
    have := hs3 W
    rw [show ((1 + R : Nat) : Int) = 1 + (R : Int) by omega] at this
    exact this
  have I2 : Hid (Ints w a2 S) := i2
  have I3 : Hid (Ints w a3 D) := i3
  have LS : Hid (S.length ≤ 1048576) := by show _ ≤ _; omega
  have LD : Hid (D.length ≤ 1048576) := lD
  have hw7 : IntKind.i64.wrap (1 + (R : Int)) = 1 + (R : Int) := by rw [IntKind.wrap_i64]; omega
  have KB : Hid (∀ W', Below V.heap.size V W' → W'.cell? ⟨b1, o1, none⟩ = some (.int .i64 (R : Int))) := fun W' hb => (hb.cell (p := ⟨b1, o1, none⟩) LB.out).trans q4
  have LV : Hid (w.heap.size + 1 < V.heap.size) := Y4.out.lt
  have HSD : Hid (S.length = R) := lS
  have R1 : 1 + (R : Int) ≤ (L : Int) := by omega
  have L0 : 0 < L := by omega
  have z0 : (0 : Int) ≤ 0 := by omega
  clear hS hD hs2 hs3 i2 i3 i1 lS lD LB OK
  go_cut [8] from 43 (fun p w' => ∃ (g9 : Nat) (ax : Option Addr) (cx : Nat) (ay : Option Addr) (cy : Nat), p = .pointer (some ⟨g9, 0, none⟩) ∧ (Box w' g9 (.slice ax S.length cx) (.slice ay D.length cy) 45 ∧ Arr V.heap.size w'.heap.size w' (.agg #[.slice ax S.length cx, .slice ay D.length cy]) S D) ∧ Below V.heap.size V w')
  case first =>
    have nq := World.new_ne V ⟨b1, o1, none⟩ q4
    go_region_held3 (fun w' => w'.cell? ⟨b1, o1, none⟩ = some (.int .i64 (R : Int)))
      (first | exact z9 _ _ _ (by omega) | (refine KB.out _ ?_; (repeat first | exact BY.out | exact BX.out | exact Below.refl _ _ | refine bAlloc ?_ _ | refine Below.drew ?_); done) | go_keep)
      (first
        | (refine step_append_newI (by rfl) (.tmp 43) (.tmp 49) (by rfl) _ _ _ _ S (by rfl) (by rfl) (I2.out.keep (bTrans B4.out (by repeat first | exact (Below.refl _ _).drew | exact BX.out | exact BY.out | exact Below.refl _ _ | refine bAlloc ?_ _ | refine Below.drew ?_))) LS.out ?_; intro ax cx wx hpx hbx; have BX : Hid (Below V.heap.size V wx) := bTrans (by repeat first | exact (Below.refl _ _).drew | exact BX.out | exact BY.out | exact Below.refl _ _ | refine bAlloc ?_ _ | refine Below.drew ?_) hbx; have PX : Hid (Piece V.heap.size wx.heap.size wx (.slice ax S.length cx) S) := hpx.mono (sizeBelowH (w := V) (by repeat first | exact (Below.refl _ _).drew | exact BX.out | exact BY.out | exact Below.refl _ _ | refine bAlloc ?_ _ | refine Below.drew ?_)) (Nat.le_refl _); (try (refine (have E0 : Hid (Box wx (V.heap.size) (.slice none 0 0) (.slice none 0 0) 45 ∧ ∃ lo, (V.heap.size) < lo ∧ Piece lo wx.heap.size wx (.slice ax S.length cx) S) := ?_; ?_); focus (refine box_pack ?_ hbx hpx; (repeat first | (refine box_top ?_; first | rfl | (simp; done)) | refine Box.keep ?_ (bAlloc (Below.refl _ _) _) | refine Box.keep ?_ ((Below.refl _ _).drew)); done))); (try (refine (have E1 : Hid (Box wx (V.heap.size + 1) (.slice none 0 0) (.slice none 0 0) 45 ∧ ∃ lo, (V.heap.size + 1) < lo ∧ Piece lo wx.heap.size wx (.slice ax S.length cx) S) := ?_; ?_); focus (refine box_pack ?_ hbx hpx; (repeat first | (refine box_top ?_; first | rfl | (simp; done)) | refine Box.keep ?_ (bAlloc (Below.refl _ _) _) | refine Box.keep ?_ ((Below.refl _ _).drew)); done))); (try (refine (have E2 : Hid (Box wx (V.heap.size + 1 + 1) (.slice none 0 0) (.slice none 0 0) 45 ∧ ∃ lo, (V.heap.size + 1 + 1) < lo ∧ Piece lo wx.heap.size wx (.slice ax S.length cx) S) := ?_; ?_); focus (refine box_pack ?_ hbx hpx; (repeat first | (refine box_top ?_; first | rfl | (simp; done)) | refine Box.keep ?_ (bAlloc (Below.refl _ _) _) | refine Box.keep ?_ ((Below.refl _ _).drew)); done))); have x9 := KB.out _ BX.out; have nx9 := World.new_ne wx ⟨b1, o1, none⟩ x9; clear hpx hbx)
        | (refine step_append_newI (by rfl) (.tmp 51) (.tmp 57) (by rfl) _ _ _ _ D (by rfl) (by rfl) (I3.out.keep (bTrans B4.out (by repeat first | exact (Below.refl _ _).drew | exact BX.out | exact BY.out | exact Below.refl _ _ | refine bAlloc ?_ _ | refine Below.drew ?_))) LD.out ?_; intro ay cy wy hpy hby; have BQ : Hid (Below wx.heap.size wx wy) := bTrans (by repeat first | exact Below.refl _ _ | refine bAlloc ?_ _ | refine Below.drew ?_) hby; have BY : Hid (Below V.heap.size V wy) := bTrans BX.out BQ.out; have PX2 : Hid (Piece V.heap.size wx.heap.size wy (.slice ax S.length cx) S) := PX.out.keep BQ.out; have PY : Hid (Piece wx.heap.size wy.heap.size wy (.slice ay D.length cy) D) := hpy.mono (sizeBelowH (w := wx) (by repeat first | exact Below.refl _ _ | refine bAlloc ?_ _ | refine Below.drew ?_)) (Nat.le_refl _); have S12 : Hid (wx.heap.size ≤ wy.heap.size) := BQ.out.size; (try have F0 : Hid (Box wy (V.heap.size) (.slice none 0 0) (.slice none 0 0) 45 ∧ (V.heap.size) < wx.heap.size ∧ ∃ lo, (V.heap.size) < lo ∧ Piece lo wx.heap.size wy (.slice ax S.length cx) S) := (E0.out.elim fun h1 h2 => h2.elim fun lo h3 => ⟨h1.keep BQ.out, h1.lt, lo, h3.1, h3.2.keep BQ.out⟩)); (try have G0 : Hid (Box wy (V.heap.size) (.slice none 0 0) (.slice none 0 0) 45) := F0.out.1); (try have F1 : Hid (Box wy (V.heap.size + 1) (.slice none 0 0) (.slice none 0 0) 45 ∧ (V.heap.size + 1) < wx.heap.size ∧ ∃ lo, (V.heap.size + 1) < lo ∧ Piece lo wx.heap.size wy (.slice ax S.length cx) S) := (E1.out.elim fun h1 h2 => h2.elim fun lo h3 => ⟨h1.keep BQ.out, h1.lt, lo, h3.1, h3.2.keep BQ.out⟩)); (try have G1 : Hid (Box wy (V.heap.size + 1) (.slice none 0 0) (.slice none 0 0) 45) := F1.out.1); (try have F2 : Hid (Box wy (V.heap.size + 1 + 1) (.slice none 0 0) (.slice none 0 0) 45 ∧ (V.heap.size + 1 + 1) < wx.heap.size ∧ ∃ lo, (V.heap.size + 1 + 1) < lo ∧ Piece lo wx.heap.size wy (.slice ax S.length cx) S) := (E2.out.elim fun h1 h2 => h2.elim fun lo h3 => ⟨h1.keep BQ.out, h1.lt, lo, h3.1, h3.2.keep BQ.out⟩)); (try have G2 : Hid (Box wy (V.heap.size + 1 + 1) (.slice none 0 0) (.slice none 0 0) 45) := F2.out.1); (try (refine (have F3 : Hid (Box wy (wx.heap.size) (.slice none 0 0) (.slice none 0 0) 45 ∧ ∃ lo, (wx.heap.size) < lo ∧ Piece lo wy.heap.size wy (.slice ay D.length cy) D) := ?_; ?_); focus (refine box_pack ?_ hby hpy; (repeat first | (refine box_top ?_; first | rfl | (simp; done)) | refine Box.keep ?_ (bAlloc (Below.refl _ _) _) | refine Box.keep ?_ ((Below.refl _ _).drew)); done))); (try have G3 : Hid (Box wy (wx.heap.size) (.slice none 0 0) (.slice none 0 0) 45) := F3.out.1); (try (refine (have F4 : Hid (Box wy (wx.heap.size + 1) (.slice none 0 0) (.slice none 0 0) 45 ∧ ∃ lo, (wx.heap.size + 1) < lo ∧ Piece lo wy.heap.size wy (.slice ay D.length cy) D) := ?_; ?_); focus (refine box_pack ?_ hby hpy; (repeat first | (refine box_top ?_; first | rfl | (simp; done)) | refine Box.keep ?_ (bAlloc (Below.refl _ _) _) | refine Box.keep ?_ ((Below.refl _ _).drew)); done))); (try have G4 : Hid (Box wy (wx.heap.size + 1) (.slice none 0 0) (.slice none 0 0) 45) := F4.out.1); (try have nb00 := G0.out.c0); (try have nb01 := G0.out.c1); (try have nf00 : wy.frozen? ⟨(V.heap.size), 0, none⟩ = false := free_at G0.out 0); (try have nf01 : wy.frozen? ⟨(V.heap.size), 1, none⟩ = false := free_at G0.out 1); (try have nb10 := G1.out.c0); (try have nb11 := G1.out.c1); (try have nf10 : wy.frozen? ⟨(V.heap.size + 1), 0, none⟩ = false := free_at G1.out 0); (try have nf11 : wy.frozen? ⟨(V.heap.size + 1), 1, none⟩ = false := free_at G1.out 1); (try have nb20 := G2.out.c0); (try have nb21 := G2.out.c1); (try have nf20 : wy.frozen? ⟨(V.heap.size + 1 + 1), 0, none⟩ = false := free_at G2.out 0); (try have nf21 : wy.frozen? ⟨(V.heap.size + 1 + 1), 1, none⟩ = false := free_at G2.out 1); (try have nb30 := G3.out.c0); (try have nb31 := G3.out.c1); (try have nf30 : wy.frozen? ⟨(wx.heap.size), 0, none⟩ = false := free_at G3.out 0); (try have nf31 : wy.frozen? ⟨(wx.heap.size), 1, none⟩ = false := free_at G3.out 1); (try have nb40 := G4.out.c0); (try have nb41 := G4.out.c1); (try have nf40 : wy.frozen? ⟨(wx.heap.size + 1), 0, none⟩ = false := free_at G4.out 0); (try have nf41 : wy.frozen? ⟨(wx.heap.size + 1), 1, none⟩ = false := free_at G4.out 1); have hle : V.heap.size ≤ wx.heap.size := BX.out.size; have z9 : ∀ (g : Nat) (a b : Value), V.heap.size ≤ g → ((wy.setCell ⟨g, 0, none⟩ a).setCell ⟨g, 1, none⟩ b).cell? ⟨b1, o1, none⟩ = some (.int .i64 (R : Int)) := fun g a b hg => KB.out _ (below_setCell (below_setCell BY.out hg _ _) hg _ _); clear hpy hby))
    all_goals
      go_wp2_with fail
      go_meet
      case rel =>
        have s12 := S12.out
        first
          | exact ⟨_, _, _, _, _, rfl, fin_new hle PX2.out s12 PY.out, bAlloc BY.out _⟩
          | exact F0.out.elim fun h1 h2 => h2.2.elim fun lo h3 => ⟨(V.heap.size), _, _, _, _, rfl, fin_old (by omega) h1 h3.1 h3.2 h2.1 s12 PY.out, below_setCell (below_setCell BY.out (by omega) _ _) (by omega) _ _⟩
          | exact F1.out.elim fun h1 h2 => h2.2.elim fun lo h3 => ⟨(V.heap.size + 1), _, _, _, _, rfl, fin_old (by omega) h1 h3.1 h3.2 h2.1 s12 PY.out, below_setCell (below_setCell BY.out (by omega) _ _) (by omega) _ _⟩
          | exact F2.out.elim fun h1 h2 => h2.2.elim fun lo h3 => ⟨(V.heap.size + 1 + 1), _, _, _, _, rfl, fin_old (by omega) h1 h3.1 h3.2 h2.1 s12 PY.out, below_setCell (below_setCell BY.out (by omega) _ _) (by omega) _ _⟩
          | exact F3.out.elim fun h1 h2 => h2.elim fun lo h3 => ⟨(wx.heap.size), _, _, _, _, rfl, fin_mid hle h1 (by omega) PX2.out h3.1 s12 h3.2, below_setCell (below_setCell BY.out (by omega) _ _) (by omega) _ _⟩
          | exact F4.out.elim fun h1 h2 => h2.elim fun lo h3 => ⟨(wx.heap.size + 1), _, _, _, _, rfl, fin_mid hle h1 (by omega) PX2.out h3.1 s12 h3.2, below_setCell (below_setCell BY.out (by omega) _ _) (by omega) _ _⟩
  case rest =>
    obtain ⟨g9, ax, cx, ay, cy, rfl, hX, hBel⟩ := hcut
    have XF : Hid (Box wc g9 (.slice ax S.length cx) (.slice ay D.length cy) 45) := hX.1
    have AF : Hid (Arr V.heap.size wc.heap.size wc (.agg #[.slice ax S.length cx, .slice ay D.length cy]) S D) := hX.2
    have WF : Hid (Below w.heap.size w wc) := bTrans B4.out hBel
    have Y9 : Hid (Box wc (w.heap.size + 1) (.slice none 0 0) (.slice none 0 0) 45) := Y4.out.keep hBel
    clear KB hX hBel
    have b0 := XF.out.c0
    have b1' := XF.out.c1
    go_wp2_with fail
    refine (arrOk_spec AF.out.arrI LD.out).mono ?_
    rintro r wg ⟨rfl, hb⟩
    have BG : Hid (Below w.heap.size w wg) := bTrans WF.out hb
    have YG : Hid (Box wg (w.heap.size + 1) (.slice none 0 0) (.slice none 0 0) 45) := Y9.out.keep hb
    have AG : Hid (Arr V.heap.size wc.heap.size wg (.agg #[.slice ax S.length cx, .slice ay D.length cy]) S D) := AF.out.keep hb
    have XG : Hid (Box wg g9 (.slice ax S.length cx) (.slice ay D.length cy) 45) := XF.out.keep hb
    have SG : Hid (wc.heap.size ≤ wg.heap.size) := hb.size
    clear hb b0 b1' XF AF Y9
    have r0 := YG.out.c0
    have r1 := YG.out.c1
    have f0 : wg.frozen? ⟨w.heap.size + 1, 0, none⟩ = false := free_at YG.out 0
    have f1 : wg.frozen? ⟨w.heap.size + 1, 1, none⟩ = false := free_at YG.out 1
    by_cases aa : arrOk S D = true
    · rw [if_pos aa] at GO2
      obtain ⟨e1, e2, e3⟩ := gO_some GO2
      have g0 := XG.out.c0
      have g1 := XG.out.c1
      rw [aa]
      go_wp2
      refine bodyPost_ret (results_arr_tmp Try.results28 _ _ (w.heap.size + 1) _ _ rfl (arr_stored YG.out)) rfl ?_
      rw [e1, e2, e3]
      have LV9 := LV.out
      have SG9 := SG.out
      exact ⟨_, rfl, ((AG.out.setCell LV9 _ _).setCell LV9 _ _).mono (by omega) (by simp only [size_setCell]; omega), below_setCell (below_setCell BG.out (by omega) _ _) (by omega) _ _⟩
    · rw [if_neg aa] at GO2
      obtain ⟨e1, e2, e3⟩ := gO_none GO2
      rw [show arrOk S D = false by simpa using aa]
      go_wp2
      refine bodyPost_ret (results_arr_tmp Try.results28 _ _ (w.heap.size + 1) _ _ rfl (arr_stored YG.out)) rfl ?_
      rw [e1, e2, e3]
      exact ⟨_, rfl, arr_zero _ _ _, below_setCell (below_setCell BG.out (by omega) _ _) (by omega) _ _⟩
end Go.Proofs.Ytfmfppndcbmohaa
