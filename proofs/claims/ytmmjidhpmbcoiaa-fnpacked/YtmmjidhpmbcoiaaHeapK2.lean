/-
  Walks: the specification's l13Pack.
-/
import Derived.Test.YtmmjidhpmbcoiaaHeapK1
import Derived.Test.YtmmjidhpmbcoiaaHeapF2
import Derived.Test.YtmmjidhpmbcoiaaHeapCap
import Derived.Deep.Cut
namespace Go.Proofs.Ytmmjidhpmbcoiaa
open Go.RowKit
set_option linter.unusedVariables false
set_option linter.unusedSimpArgs false
/-- The room of a heap's cells is there. -/
def CapH (w : World) (v : Value) (n : Nat) : Prop := ∃ x y a c, v = .agg #[x, y, .slice a n c] ∧ Cap w a n c
/-- A heap at work: its box, its words, its cells (if there are any), each in a block of its own from L on. -/
def HZ (L g3 gw gc : Nat) (w : World) (X : List Int) (t : Int) (n : Nat) (C : Nat → Cel) (z : Value) : Prop :=
  (L ≤ g3 ∧ L ≤ gw ∧ g3 ≠ gw) ∧ Box3 w g3 (.slice (some ⟨gw, 0, none⟩) X.length X.length) (.int .i64 t) z 28 ∧ OwnInts w gw X ∧ ∃ a c, z = .slice a n c ∧ (n ≤ c ∧ Cap w a n c) ∧ (n = 0 ∨ (a = some ⟨gc, 0, none⟩ ∧ L ≤ gc ∧ g3 ≠ gc ∧ gw ≠ gc ∧ CBlk w gc n C))
theorem own_keep {w w' : World} {g : Nat} {l : List Int} (h : OwnInts w g l) (hb : Below w.heap.size w w') : OwnInts w' g l := by
  unfold OwnInts at *
  rw [hb.block g (lt_of_heapA h)]; exact h
theorem own_win {w w' : World} {g B C : Nat} {l : List Int} (h : OwnInts w g l) (hw : Win B C w w') (hd : g < B ∨ C ≤ g) : OwnInts w' g l := by
  unfold OwnInts at *
  rw [hw.block g (lt_of_heapA h) hd]; exact h
theorem own_top {W : World} {g : Nat} {l : List Int} (h : W.heap.size = g) : OwnInts (W.alloc (.cells (vals l) 3)) g l := by subst h; exact heap_alloc_new _ _
theorem box3_top {W : World} {g : Nat} {x y z : Value} {t : TypeId} (h : W.heap.size = g) : Box3 (W.alloc (.cells #[x, y, z] t)) g x y z t := by subst h; exact heap_alloc_new _ _
theorem lo_of {B C : Nat} {w : World} {v : Value} {n : Nat} {E : Nat → Cel} (h : CPiece B C w v n E) : ∃ lo, lo = B ∧ CPiece lo C w v n E := ⟨B, rfl, h⟩
theorem box3_pack {W1 wx : World} {A lo : Nat} {x y z : Value} {t : TypeId} (h : Box3 W1 A x y z t) (hb : Below W1.heap.size W1 wx) (hlo : lo = W1.heap.size) : Box3 wx A x y z t ∧ A < lo := ⟨h.keep hb, by rw [hlo]; exact h.lt⟩
theorem own_pack {W1 wx : World} {A lo : Nat} {l : List Int} (h : OwnInts W1 A l) (hb : Below W1.heap.size W1 wx) (hlo : lo = W1.heap.size) : OwnInts wx A l ∧ A < lo := ⟨own_keep h hb, by rw [hlo]; exact lt_of_heapA h⟩
theorem hz_mk {L g3 gw lo hi m n : Nat} {w' : World} {z : Value} {E : Nat → Cel} (h3 : Box3 w' g3 (.slice (some ⟨gw, 0, none⟩) m m) (.int .i64 0) z 28) (hw : OwnInts w' gw (List.replicate m 0)) (hc : CPiece lo hi w' z n E) (d : L ≤ lo ∧ L ≤ g3 ∧ L ≤ gw ∧ g3 ≠ gw ∧ (g3 < lo ∨ hi ≤ g3) ∧ (gw < lo ∨ hi ≤ gw)) (hcap : ∀ a c, z = .slice a n c → Cap w' a n c) : ∃ gc, HZ L g3 gw gc w' (List.replicate m 0) 0 n E z := by
  obtain ⟨a, c, e, hle, h⟩ := hc
  rcases h with h | ⟨g, ha, b1, b2, hb⟩
  · exact ⟨0, ⟨d.2.1, d.2.2.1, d.2.2.2.1⟩, by rw [List.length_replicate]; exact h3, hw, a, c, e, ⟨hle, hcap _ _ e⟩, .inl h⟩
  · exact ⟨g, ⟨d.2.1, d.2.2.1, d.2.2.2.1⟩, by rw [List.length_replicate]; exact h3, hw, a, c, e, ⟨hle, hcap _ _ e⟩, .inr ⟨ha, by omega, by omega, by omega, hb⟩⟩
/-- Words in a block, then the box: behind what was there. -/
theorem hz_set {L A gw lo hi m n : Nat} {w w' : World} {x0 y0 z0 z : Value} {E : Nat → Cel} (h3 : Box3 w A x0 y0 z0 28) (hw : OwnInts w gw (List.replicate m 0)) (hc : CPiece lo hi w z n E) (e : w'.heap = (((w.setCell ⟨A, 0, none⟩ (.slice (some ⟨gw, 0, none⟩) m m)).setCell ⟨A, 1, none⟩ (.int .i64 0)).setCell ⟨A, 2, none⟩ z).heap) (d : L ≤ lo ∧ L ≤ A ∧ L ≤ gw ∧ A ≠ gw ∧ (A < lo ∨ hi ≤ A) ∧ (gw < lo ∨ hi ≤ gw)) (hcap : ∀ a c, z = .slice a n c → Cap w a n c) : ∃ gc, HZ L A gw gc w' (List.replicate m 0) 0 n E z := by
  have W3 : Win A (A + 1) w (((w.setCell ⟨A, 0, none⟩ (.slice (some ⟨gw, 0, none⟩) m m)).setCell ⟨A, 1, none⟩ (.int .i64 0)).setCell ⟨A, 2, none⟩ z) := ((win_setCell _ _ _ _).trans (win_setCell _ _ _ _)).trans (win_setCell _ _ _ _)
  obtain ⟨gc, h⟩ := hz_mk (((h3.set0 _).set1 _).set2 _) (own_win hw W3 (by omega)) (hc.win W3 (by omega)) d (fun a c e => (((hcap a c e).set _ _ _).set _ _ _).set _ _ _)
  refine ⟨gc, ?_⟩
  unfold HZ Box3 OwnInts CBlk Cap at *
  rw [e]
  exact h
theorem winD {B C : Nat} {w w' : World} (h : Win B C w w') : Win B C w w'.drew := ⟨h.os, h.tape, h.output, h.size, h.block⟩
theorem idx_hn {E : Nat → Cel} {n : Nat} {hs : List Nat} (ho : Ord E n hs) {k : Nat} (hk : k < hs.length) : hs.idxOf (hn hs k) = k := by
  have hm : hn hs k ∈ hs := by unfold hn; rw [List.getD_eq_getElem?_getD, List.getElem?_eq_getElem hk]; exact List.getElem_mem hk
  have hi := List.idxOf_lt_length_of_mem hm
  refine hn_inj ho hi hk ?_
  show hs.getD (hs.idxOf (hn hs k)) 0 = hn hs k
  rw [List.getD_eq_getElem?_getD, List.getElem?_eq_getElem hi]
  simp
section
variable {L g3 gw gc : Nat} {w w' : World} {X : List Int} {t : Int} {n : Nat} {C : Nat → Cel} {z : Value}
theorem HZ.keep (h : HZ L g3 gw gc w X t n C z) (hb : Below w.heap.size w w') : HZ L g3 gw gc w' X t n C z := by
  obtain ⟨a1, a2, a3, a, c, e, hle, a4⟩ := h
  exact ⟨a1, a2.keep hb, own_keep a3 hb, a, c, e, ⟨hle.1, hle.2.keep hb⟩, a4.imp_right fun ⟨b1, b2, b3, b4, b5⟩ => ⟨b1, b2, b3, b4, b5.keep hb⟩⟩
theorem HZ.word (h : HZ L g3 gw gc w X t n C z) (k : Nat) (x : Int) : HZ L g3 gw gc (w.setCell ⟨gw, k, none⟩ (.int .i64 x)) (X.set k x) t n C z := by
  obtain ⟨a1, a2, a3, a, c, e, hle, a4⟩ := h
  refine ⟨a1, by rw [List.length_set]; exact a2.other (by omega) _, ?_, a, c, e, ⟨hle.1, hle.2.set _ _ _⟩, a4.imp_right fun ⟨b1, b2, b3, b4, b5⟩ => ⟨b1, b2, b3, b4, b5.win (win_setCell _ _ _ _) (by omega)⟩⟩
  have e := heap_setCell_same w gw k _ _ (.int .i64 x) (show w.heap[gw]? = _ from a3)
  unfold OwnInts
  rw [e]
  simp [vals, List.map_set]
theorem HZ.top (h : HZ L g3 gw gc w X t n C z) (t' : Int) : HZ L g3 gw gc (w.setCell ⟨g3, 1, none⟩ (.int .i64 t')) X t' n C z := by
  obtain ⟨a1, a2, a3, a, c, e, hle, a4⟩ := h
  exact ⟨a1, a2.set1 _, own_win a3 (win_setCell _ _ _ _) (by omega), a, c, e, ⟨hle.1, hle.2.set _ _ _⟩, a4.imp_right fun ⟨b1, b2, b3, b4, b5⟩ => ⟨b1, b2, b3, b4, b5.win (win_setCell _ _ _ _) (by omega)⟩⟩
end
theorem pk_lenS {W : List Int} {t : Int} {n : Nat} {E : Nat → Cel} {hs : List Nat} (h : hOk W.length t n E) (ho : Ord E n hs) {k : Nat} (hk : k ≤ hs.length) : offs E hs k ≤ W.length ∧ (pkX W E hs k ++ List.replicate (W.length - offs E hs k) 0).length = W.length := by
  have : offs E hs k ≤ W.length := by
    cases k with
    | zero => simp [offs]
    | succ k =>
      have := offs_end h ho (show k < hs.length by omega)
      have := h.2.2.1
      omega
  refine ⟨this, ?_⟩
  rw [List.length_append, pkX_length h ho k hk, List.length_replicate]
  omega
theorem pkC_later {E : Nat → Cel} {n : Nat} {hs : List Nat} (ho : Ord E n hs) {k : Nat} (hk : k < hs.length) : ∀ j, j ≤ k → pkC E hs E j (hn hs k) = E (hn hs k)
  | 0, _ => rfl
  | j + 1, hj => by
    simp only [pkC]
    rw [up_ne _ _ (fun e => by have := hn_inj ho hk (show j < hs.length by omega) e; omega)]
    exact pkC_later ho hk j (by omega)
theorem CBlk.from {w : World} {g n k : Nat} {E : Nat → Cel} (h : CBlk w g n E) (hk : k < n) (x : Int) : CBlk (w.setCell ⟨g, k * 3, none⟩ (.int .i64 x)) g n (up E k ⟨x, (E k).l, (E k).v⟩) := by
  obtain ⟨cur, t, hg, h⟩ := h
  have s1 := heap_setCell_same w g (k * 3) _ _ (.int .i64 x) hg
  obtain ⟨k1, k2, k3⟩ := h k hk
  have l1 := (Array.getElem?_eq_some_iff.1 k1).1
  refine ⟨_, t, s1, fun i hi => ?_⟩
  by_cases e : i = k
  · subst e
    rw [up_at]
    refine ⟨?_, ?_, ?_⟩
    · rw [Array.getElem?_setIfInBounds, if_pos rfl, if_pos l1]
    · rw [Array.getElem?_setIfInBounds, if_neg (by omega)]; exact k2
    · rw [Array.getElem?_setIfInBounds, if_neg (by omega)]; exact k3
  · obtain ⟨q1, q2, q3⟩ := h i hi
    rw [up_ne E _ e]
    refine ⟨?_, ?_, ?_⟩
    · rw [Array.getElem?_setIfInBounds, if_neg (by omega)]; exact q1
    · rw [Array.getElem?_setIfInBounds, if_neg (by omega)]; exact q2
    · rw [Array.getElem?_setIfInBounds, if_neg (by omega)]; exact q3
theorem HZ.from {L g3 gw gc : Nat} {w : World} {X : List Int} {t : Int} {n : Nat} {C : Nat → Cel} {z : Value} (h : HZ L g3 gw gc w X t n C z) {k : Nat} (hk : k < n) (x : Int) : HZ L g3 gw gc (w.setCell ⟨gc, k * 3, none⟩ (.int .i64 x)) X t n (up C k ⟨x, (C k).l, (C k).v⟩) z := by
  obtain ⟨a1, a2, a3, a, c, e, hle, a4⟩ := h
  rcases a4 with a4 | ⟨b1, b2, b3, b4, b5⟩
  · omega
  · exact ⟨a1, a2.other b3 _, own_win a3 (win_setCell _ _ _ _) (by omega), a, c, e, ⟨hle.1, hle.2.set _ _ _⟩, .inr ⟨b1, b2, b3, b4, b5.from hk x⟩⟩
theorem HZ.hx {L g3 gw gc : Nat} {w : World} {X : List Int} {t : Int} {n : Nat} {C : Nat → Cel} {z : Value} (h : HZ L g3 gw gc w X t n C z) : HX L w.heap.size w (.agg #[.slice (some ⟨gw, 0, none⟩) X.length X.length, .int .i64 t, z]) X t n C := by
  obtain ⟨a1, a2, a3, a, c, e, hle, a4⟩ := h
  have hg : gw < w.heap.size := lt_of_heapA a3
  rcases a4 with a4 | ⟨b1, b2, b3, b4, b5⟩
  · subst a4
    exact ⟨_, _, gw, gw + 1, gw + 1, gw + 1, rfl, by omega, .inl (Nat.le_refl _), a3.piece (Nat.le_refl _) (Nat.lt_succ_self _) _ (Nat.le_refl _), ⟨a, c, e, hle.1, .inl rfl⟩⟩
  · have := b5.lt
    exact ⟨_, _, gw, gw + 1, gc, gc + 1, rfl, by omega, by omega, a3.piece (Nat.le_refl _) (Nat.lt_succ_self _) _ (Nat.le_refl _), ⟨a, c, e, hle.1, .inr ⟨gc, b1, Nat.le_refl _, Nat.lt_succ_self _, b5⟩⟩⟩
/-- Plain: the first j words of e are pasted from place k on. -/
def pst (X : List Int) (k : Nat) (e : List Int) : Nat → List Int
  | 0 => X
  | j + 1 => (pst X k e j).set (k + j) (e.getD j 0)
theorem pst_len (X : List Int) (k : Nat) (e : List Int) : ∀ j, (pst X k e j).length = X.length
  | 0 => rfl
  | j + 1 => by simp [pst, pst_len X k e j]
theorem pst_eq (P e : List Int) (m : Nat) : ∀ j, j ≤ e.length → j ≤ m → pst (P ++ List.replicate m 0) P.length e j = P ++ e.take j ++ List.replicate (m - j) 0
  | 0, _, _ => by simp [pst]
  | j + 1, h1, h2 => by
    rw [pst, pst_eq P e m j (by omega) (by omega)]
    have l1 : (P ++ e.take j).length = P.length + j := by simp; omega
    rw [List.set_append_right _ _ (by omega), l1, Nat.sub_self]
    obtain ⟨q, hq⟩ : ∃ q, m - j = q + 1 := ⟨m - j - 1, by omega⟩
    rw [hq, List.replicate_succ, List.set_cons_zero, show m - (j + 1) = q by omega, List.append_assoc, List.append_assoc]
    congr 1
    rw [List.take_add_one, List.append_assoc]
    congr 1
    rw [List.getD_eq_getElem?_getD, List.getElem?_eq_getElem (by omega)]
    rfl
set_option maxRecDepth 20000 in
set_option maxHeartbeats 16000000 in
theorem pack_spec2 {w : World} {v : Value} {W : List Int} {t : Int} {n : Nat} {E : Nat → Cel} {hs : List Nat} (h : HI w v W t n E) (hk : hOk W.length t n E) (ho : Ord E n hs) :
    Calls Try.prog 62 #[v] w fun e w' => ∃ v' : Value, e = .returned v' ∧ HX w.heap.size w'.heap.size w' v' (pkX W E hs hs.length ++ List.replicate (W.length - offs E hs hs.length) 0) (offs E hs hs.length) n (pkC E hs E hs.length) ∧ CapH w' v' n ∧ Below w.heap.size w w' := by
  have HH : Hid (HI w v W t n E) := h
  obtain ⟨wa, wc_, ca, cc, rfl, h1, h2, h3, h4⟩ := h
  have H1 : Hid (Ints w wa W) := h1
  have H3 : Hid (CsA w ca n E) := h3
  have HK : Hid (hOk W.length t n E) := hk
  have HO : Hid (Ord E n hs) := ho
  have m6 : W.length ≤ 6000 := hk.1
  have n2 : n ≤ 200 := hk.2.2.2.1
  have HN : Hid (n ≤ 1048576) := by show _ ≤ _; omega
  have hmi : ∀ w, (Instr.makeSlice 25 (.int .i64 (W.length : Int)) (.int .i64 (W.length : Int))).run Try.prog w = .ok (.slice (some ⟨w.heap.size, 0, none⟩) W.length W.length) (w.alloc (.cells (vals (List.replicate W.length 0)) 3)) := fun w => make_ints W.length (by omega) w
  clear h1 h2 h3 h4 hk ho
  go_enter Try.func62, Try.ntmps62
  go_wp2_with fail
  generalize hV : (w.alloc (.cells #[.slice wa W.length wc_, .int .i64 t, .slice ca n cc] 28)).alloc (.cells #[.slice none 0 0, .int .i64 0, .slice none 0 0] 28) = V
  have B1 : Hid (Below w.heap.size w V) := by rw [← hV]; exact bAlloc (bAlloc (Below.refl _ _) _) _
  have X1 : Hid (Box3 V w.heap.size (.slice wa W.length wc_) (.int .i64 t) (.slice ca n cc) 28) := by rw [← hV]; exact (box3_new _ _ _ _ _).alloc _
  have Y1 : Hid (Box3 V (w.heap.size + 1) (.slice none 0 0) (.int .i64 0) (.slice none 0 0) 28) := by
    have := box3_new (w.alloc (.cells #[.slice wa W.length wc_, .int .i64 t, .slice ca n cc] 28)) (.slice none 0 0) (.int .i64 0) (.slice none 0 0) 28
    show Box3 _ _ _ _ _ _
    rw [← hV]; simpa using this
  clear hV
  have KB : Hid (∀ W' : World, Below V.heap.size V W' → W'.cell? ⟨w.heap.size, 0, none⟩ = some (.slice wa W.length wc_) ∧ W'.cell? ⟨w.heap.size, 2, none⟩ = some (.slice ca n cc)) := fun W' hb => ⟨(X1.out.keep hb).c0, (X1.out.keep hb).c2⟩
  go_cut [3] from 7 (fun p w' => ∃ (g3 gw : Nat) (z : Value), p = .pointer (some ⟨g3, 0, none⟩) ∧ (∃ gc, HZ V.heap.size g3 gw gc w' (List.replicate W.length 0) 0 n E z) ∧ Below V.heap.size V w')
  case first =>
    have u0 := X1.out.c0
    have u2 := X1.out.c2
    have nu0 := World.new_ne V ⟨w.heap.size, 0, none⟩ u0
    have nu2 := World.new_ne V ⟨w.heap.size, 2, none⟩ u2
    go_region_held3 (fun w' => w'.cell? ⟨w.heap.size, 0, none⟩ = some (.slice wa W.length wc_) ∧ w'.cell? ⟨w.heap.size, 2, none⟩ = some (.slice ca n cc))
      (first | (refine KB.out _ ?_; (repeat first | exact BX.out | exact Below.refl _ _ | refine bAlloc ?_ _ | refine Below.drew ?_ | refine below_setCell ?_ (by omega) _ _); done) | go_keep)
      ((refine step_append_newC2 (by rfl) (.tmp 11) (.tmp 13) (by rfl) _ _ _ _ n E (by rfl) (by rfl) (H3.out.keep (bTrans B1.out (by repeat first | exact (Below.refl _ _).drew | exact Below.refl _ _ | refine bAlloc ?_ _ | refine Below.drew ?_))) HN.out ?_; intro ay cy wx hpy hcy hby; have PCC : Hid (Cap wx ay n cy) := hcy; have BX : Hid (Below V.heap.size V wx) := bTrans (by repeat first | exact (Below.refl _ _).drew | exact Below.refl _ _ | refine bAlloc ?_ _ | refine Below.drew ?_) hby; obtain ⟨lo, hlo, hpy⟩ := lo_of hpy; have VLO : V.heap.size ≤ lo := (by rw [hlo]; exact sizeBelowH (w := V) (by repeat first | exact (Below.refl _ _).drew | exact Below.refl _ _ | refine bAlloc ?_ _ | refine Below.drew ?_)); have PY : Hid (CPiece lo wx.heap.size wx (.slice ay n cy) n E) := hpy; (try (refine (have F0 : Hid (Box3 wx (V.heap.size) (.slice none 0 0) (.int .i64 0) (.slice none 0 0) 28 ∧ (V.heap.size) < lo) := ?_; ?_); focus (refine box3_pack ?_ hby hlo; (repeat first | (refine box3_top ?_; first | rfl | (simp; done)) | refine Box3.keep ?_ (bAlloc (Below.refl _ _) _) | refine Box3.keep ?_ ((Below.refl _ _).drew)); done))); (try (refine (have O0 : Hid (OwnInts wx (V.heap.size) (List.replicate W.length 0) ∧ (V.heap.size) < lo) := ?_; ?_); focus (refine own_pack ?_ hby hlo; (repeat first | (refine own_top ?_; first | rfl | (simp; done)) | refine own_keep ?_ (bAlloc (Below.refl _ _) _) | refine own_keep ?_ ((Below.refl _ _).drew)); done))); (try (refine (have F1 : Hid (Box3 wx (V.heap.size + 1) (.slice none 0 0) (.int .i64 0) (.slice none 0 0) 28 ∧ (V.heap.size + 1) < lo) := ?_; ?_); focus (refine box3_pack ?_ hby hlo; (repeat first | (refine box3_top ?_; first | rfl | (simp; done)) | refine Box3.keep ?_ (bAlloc (Below.refl _ _) _) | refine Box3.keep ?_ ((Below.refl _ _).drew)); done))); (try (refine (have O1 : Hid (OwnInts wx (V.heap.size + 1) (List.replicate W.length 0) ∧ (V.heap.size + 1) < lo) := ?_; ?_); focus (refine own_pack ?_ hby hlo; (repeat first | (refine own_top ?_; first | rfl | (simp; done)) | refine own_keep ?_ (bAlloc (Below.refl _ _) _) | refine own_keep ?_ ((Below.refl _ _).drew)); done))); (try (refine (have F2 : Hid (Box3 wx (V.heap.size + 1 + 1) (.slice none 0 0) (.int .i64 0) (.slice none 0 0) 28 ∧ (V.heap.size + 1 + 1) < lo) := ?_; ?_); focus (refine box3_pack ?_ hby hlo; (repeat first | (refine box3_top ?_; first | rfl | (simp; done)) | refine Box3.keep ?_ (bAlloc (Below.refl _ _) _) | refine Box3.keep ?_ ((Below.refl _ _).drew)); done))); (try (refine (have O2 : Hid (OwnInts wx (V.heap.size + 1 + 1) (List.replicate W.length 0) ∧ (V.heap.size + 1 + 1) < lo) := ?_; ?_); focus (refine own_pack ?_ hby hlo; (repeat first | (refine own_top ?_; first | rfl | (simp; done)) | refine own_keep ?_ (bAlloc (Below.refl _ _) _) | refine own_keep ?_ ((Below.refl _ _).drew)); done))); (try have n00 := F0.out.1.c0); (try have m00 : wx.frozen? ⟨(V.heap.size), 0, none⟩ = false := F0.out.1.free 0); (try have r00 : ∀ ob : Obj, (wx.alloc ob).cell? ⟨(V.heap.size), 0, none⟩ = some (.slice none 0 0) := fun ob => (F0.out.1.alloc ob).c0); (try have s00 : ∀ ob : Obj, (wx.alloc ob).frozen? ⟨(V.heap.size), 0, none⟩ = false := fun ob => (F0.out.1.alloc ob).free 0); (try have n01 := F0.out.1.c1); (try have m01 : wx.frozen? ⟨(V.heap.size), 1, none⟩ = false := F0.out.1.free 1); (try have r01 : ∀ ob : Obj, (wx.alloc ob).cell? ⟨(V.heap.size), 1, none⟩ = some (.int .i64 0) := fun ob => (F0.out.1.alloc ob).c1); (try have s01 : ∀ ob : Obj, (wx.alloc ob).frozen? ⟨(V.heap.size), 1, none⟩ = false := fun ob => (F0.out.1.alloc ob).free 1); (try have n02 := F0.out.1.c2); (try have m02 : wx.frozen? ⟨(V.heap.size), 2, none⟩ = false := F0.out.1.free 2); (try have r02 : ∀ ob : Obj, (wx.alloc ob).cell? ⟨(V.heap.size), 2, none⟩ = some (.slice none 0 0) := fun ob => (F0.out.1.alloc ob).c2); (try have s02 : ∀ ob : Obj, (wx.alloc ob).frozen? ⟨(V.heap.size), 2, none⟩ = false := fun ob => (F0.out.1.alloc ob).free 2); (try have n10 := F1.out.1.c0); (try have m10 : wx.frozen? ⟨(V.heap.size + 1), 0, none⟩ = false := F1.out.1.free 0); (try have r10 : ∀ ob : Obj, (wx.alloc ob).cell? ⟨(V.heap.size + 1), 0, none⟩ = some (.slice none 0 0) := fun ob => (F1.out.1.alloc ob).c0); (try have s10 : ∀ ob : Obj, (wx.alloc ob).frozen? ⟨(V.heap.size + 1), 0, none⟩ = false := fun ob => (F1.out.1.alloc ob).free 0); (try have n11 := F1.out.1.c1); (try have m11 : wx.frozen? ⟨(V.heap.size + 1), 1, none⟩ = false := F1.out.1.free 1); (try have r11 : ∀ ob : Obj, (wx.alloc ob).cell? ⟨(V.heap.size + 1), 1, none⟩ = some (.int .i64 0) := fun ob => (F1.out.1.alloc ob).c1); (try have s11 : ∀ ob : Obj, (wx.alloc ob).frozen? ⟨(V.heap.size + 1), 1, none⟩ = false := fun ob => (F1.out.1.alloc ob).free 1); (try have n12 := F1.out.1.c2); (try have m12 : wx.frozen? ⟨(V.heap.size + 1), 2, none⟩ = false := F1.out.1.free 2); (try have r12 : ∀ ob : Obj, (wx.alloc ob).cell? ⟨(V.heap.size + 1), 2, none⟩ = some (.slice none 0 0) := fun ob => (F1.out.1.alloc ob).c2); (try have s12 : ∀ ob : Obj, (wx.alloc ob).frozen? ⟨(V.heap.size + 1), 2, none⟩ = false := fun ob => (F1.out.1.alloc ob).free 2); (try have n20 := F2.out.1.c0); (try have m20 : wx.frozen? ⟨(V.heap.size + 1 + 1), 0, none⟩ = false := F2.out.1.free 0); (try have r20 : ∀ ob : Obj, (wx.alloc ob).cell? ⟨(V.heap.size + 1 + 1), 0, none⟩ = some (.slice none 0 0) := fun ob => (F2.out.1.alloc ob).c0); (try have s20 : ∀ ob : Obj, (wx.alloc ob).frozen? ⟨(V.heap.size + 1 + 1), 0, none⟩ = false := fun ob => (F2.out.1.alloc ob).free 0); (try have n21 := F2.out.1.c1); (try have m21 : wx.frozen? ⟨(V.heap.size + 1 + 1), 1, none⟩ = false := F2.out.1.free 1); (try have r21 : ∀ ob : Obj, (wx.alloc ob).cell? ⟨(V.heap.size + 1 + 1), 1, none⟩ = some (.int .i64 0) := fun ob => (F2.out.1.alloc ob).c1); (try have s21 : ∀ ob : Obj, (wx.alloc ob).frozen? ⟨(V.heap.size + 1 + 1), 1, none⟩ = false := fun ob => (F2.out.1.alloc ob).free 1); (try have n22 := F2.out.1.c2); (try have m22 : wx.frozen? ⟨(V.heap.size + 1 + 1), 2, none⟩ = false := F2.out.1.free 2); (try have r22 : ∀ ob : Obj, (wx.alloc ob).cell? ⟨(V.heap.size + 1 + 1), 2, none⟩ = some (.slice none 0 0) := fun ob => (F2.out.1.alloc ob).c2); (try have s22 : ∀ ob : Obj, (wx.alloc ob).frozen? ⟨(V.heap.size + 1 + 1), 2, none⟩ = false := fun ob => (F2.out.1.alloc ob).free 2); have hvx : V.heap.size ≤ wx.heap.size := BX.out.size; clear hpy hby hlo))
    all_goals
      go_wp2_with fail
      go_meet
      case rel =>
        first
          | exact ⟨_, _, _, rfl, hz_mk (box3_top (W := wx.alloc (.cells (vals (List.replicate W.length 0)) 3)) (by simp)) (own_keep (own_top (W := wx) rfl) (bAlloc (Below.refl _ _) _)) ((PY.out.keep (bAlloc (Below.refl _ _) _)).keep (bAlloc (Below.refl _ _) _)) (by omega) (fun a c e => by cases e; repeat first | exact PCC.out | refine Cap.alloc ?_ _ | refine Cap.drew ?_), (by repeat first | exact BX.out | refine Below.drew ?_ | refine bAlloc ?_ _ | refine below_setCell ?_ (by omega) _ _)⟩
          | exact ⟨_, _, _, rfl, hz_mk ((box3_top (W := wx) rfl).alloc _) (own_top (by simp)) ((PY.out.keep (bAlloc (Below.refl _ _) _)).keep (bAlloc (Below.refl _ _) _)) (by omega) (fun a c e => by cases e; repeat first | exact PCC.out | refine Cap.alloc ?_ _ | refine Cap.drew ?_), (by repeat first | exact BX.out | refine Below.drew ?_ | refine bAlloc ?_ _ | refine below_setCell ?_ (by omega) _ _)⟩
          | exact O0.out.elim fun h1 h2 => ⟨_, _, _, rfl, hz_mk (box3_top (W := wx) rfl) (own_keep h1 (bAlloc (Below.refl _ _) _)) (PY.out.keep (bAlloc (Below.refl _ _) _)) (by have := lt_of_heapA h1; omega) (fun a c e => by cases e; repeat first | exact PCC.out | refine Cap.alloc ?_ _ | refine Cap.drew ?_), (by repeat first | exact BX.out | refine Below.drew ?_ | refine bAlloc ?_ _ | refine below_setCell ?_ (by omega) _ _)⟩
          | exact O1.out.elim fun h1 h2 => ⟨_, _, _, rfl, hz_mk (box3_top (W := wx) rfl) (own_keep h1 (bAlloc (Below.refl _ _) _)) (PY.out.keep (bAlloc (Below.refl _ _) _)) (by have := lt_of_heapA h1; omega) (fun a c e => by cases e; repeat first | exact PCC.out | refine Cap.alloc ?_ _ | refine Cap.drew ?_), (by repeat first | exact BX.out | refine Below.drew ?_ | refine bAlloc ?_ _ | refine below_setCell ?_ (by omega) _ _)⟩
          | exact O2.out.elim fun h1 h2 => ⟨_, _, _, rfl, hz_mk (box3_top (W := wx) rfl) (own_keep h1 (bAlloc (Below.refl _ _) _)) (PY.out.keep (bAlloc (Below.refl _ _) _)) (by have := lt_of_heapA h1; omega) (fun a c e => by cases e; repeat first | exact PCC.out | refine Cap.alloc ?_ _ | refine Cap.drew ?_), (by repeat first | exact BX.out | refine Below.drew ?_ | refine bAlloc ?_ _ | refine below_setCell ?_ (by omega) _ _)⟩
          | exact F0.out.elim fun h1 h2 => ⟨_, _, _, rfl, hz_set (h1.alloc _) (own_top (W := wx) rfl) (PY.out.keep (bAlloc (Below.refl _ _) _)) rfl (by have := h1.lt; omega) (fun a c e => by cases e; repeat first | exact PCC.out | refine Cap.alloc ?_ _ | refine Cap.drew ?_), (by repeat first | exact BX.out | refine Below.drew ?_ | refine bAlloc ?_ _ | refine below_setCell ?_ (by omega) _ _)⟩
          | exact F1.out.elim fun h1 h2 => ⟨_, _, _, rfl, hz_set (h1.alloc _) (own_top (W := wx) rfl) (PY.out.keep (bAlloc (Below.refl _ _) _)) rfl (by have := h1.lt; omega) (fun a c e => by cases e; repeat first | exact PCC.out | refine Cap.alloc ?_ _ | refine Cap.drew ?_), (by repeat first | exact BX.out | refine Below.drew ?_ | refine bAlloc ?_ _ | refine below_setCell ?_ (by omega) _ _)⟩
          | exact F2.out.elim fun h1 h2 => ⟨_, _, _, rfl, hz_set (h1.alloc _) (own_top (W := wx) rfl) (PY.out.keep (bAlloc (Below.refl _ _) _)) rfl (by have := h1.lt; omega) (fun a c e => by cases e; repeat first | exact PCC.out | refine Cap.alloc ?_ _ | refine Cap.drew ?_), (by repeat first | exact BX.out | refine Below.drew ?_ | refine bAlloc ?_ _ | refine below_setCell ?_ (by omega) _ _)⟩
          | exact F0.out.elim fun h1 h2 => O1.out.elim fun h3 h4 => ⟨_, _, _, rfl, hz_set h1 h3 PY.out rfl (by omega) (fun a c e => by cases e; repeat first | exact PCC.out | refine Cap.alloc ?_ _ | refine Cap.drew ?_), (by repeat first | exact BX.out | refine Below.drew ?_ | refine bAlloc ?_ _ | refine below_setCell ?_ (by omega) _ _)⟩
          | exact F0.out.elim fun h1 h2 => O2.out.elim fun h3 h4 => ⟨_, _, _, rfl, hz_set h1 h3 PY.out rfl (by omega) (fun a c e => by cases e; repeat first | exact PCC.out | refine Cap.alloc ?_ _ | refine Cap.drew ?_), (by repeat first | exact BX.out | refine Below.drew ?_ | refine bAlloc ?_ _ | refine below_setCell ?_ (by omega) _ _)⟩
          | exact F1.out.elim fun h1 h2 => O0.out.elim fun h3 h4 => ⟨_, _, _, rfl, hz_set h1 h3 PY.out rfl (by omega) (fun a c e => by cases e; repeat first | exact PCC.out | refine Cap.alloc ?_ _ | refine Cap.drew ?_), (by repeat first | exact BX.out | refine Below.drew ?_ | refine bAlloc ?_ _ | refine below_setCell ?_ (by omega) _ _)⟩
          | exact F1.out.elim fun h1 h2 => O2.out.elim fun h3 h4 => ⟨_, _, _, rfl, hz_set h1 h3 PY.out rfl (by omega) (fun a c e => by cases e; repeat first | exact PCC.out | refine Cap.alloc ?_ _ | refine Cap.drew ?_), (by repeat first | exact BX.out | refine Below.drew ?_ | refine bAlloc ?_ _ | refine below_setCell ?_ (by omega) _ _)⟩
          | exact F2.out.elim fun h1 h2 => O0.out.elim fun h3 h4 => ⟨_, _, _, rfl, hz_set h1 h3 PY.out rfl (by omega) (fun a c e => by cases e; repeat first | exact PCC.out | refine Cap.alloc ?_ _ | refine Cap.drew ?_), (by repeat first | exact BX.out | refine Below.drew ?_ | refine bAlloc ?_ _ | refine below_setCell ?_ (by omega) _ _)⟩
          | exact F2.out.elim fun h1 h2 => O1.out.elim fun h3 h4 => ⟨_, _, _, rfl, hz_set h1 h3 PY.out rfl (by omega) (fun a c e => by cases e; repeat first | exact PCC.out | refine Cap.alloc ?_ _ | refine Cap.drew ?_), (by repeat first | exact BX.out | refine Below.drew ?_ | refine bAlloc ?_ _ | refine below_setCell ?_ (by omega) _ _)⟩
  case rest =>
    obtain ⟨g3, gw, z0, rfl, ⟨gc, hH⟩, hb⟩ := hcut
    have H0 : Hid (HZ V.heap.size g3 gw gc wc (List.replicate W.length 0) 0 n E z0) := hH
    have BC : Hid (Below V.heap.size V wc) := hb
    have LV : Hid (w.heap.size + 1 < V.heap.size) := Y1.out.lt
    clear hH hb hmi KB
    have NX : Hid (∀ (W' : World) (k : Nat) (fr : Int), Below w.heap.size w W' → (∀ j, j < k → j < hs.length → (E (hn hs j)).f < fr) → (∀ j, k ≤ j → j < hs.length → fr ≤ (E (hn hs j)).f) → Calls Try.prog 98 #[.agg #[.slice wa W.length wc_, .int .i64 t, .slice ca n cc], .int .i64 fr] W' fun e w' => e = .returned (.int .i64 (if k < hs.length then (hn hs k : Int) else -1)) ∧ Below W'.heap.size W' w') := fun W' k fr hb a1 a2 => next_spec (HH.out.keep hb) HK.out HO.out a1 a2
    have XC := X1.out.keep BC.out
    have x0 := XC.c0
    have x1 := XC.c1
    have x2 := XC.c2
    clear XC
    go_wp2_with fail
    refine (NX.out _ 0 0 (bTrans B1.out BC.out) (fun j hj => absurd hj (by omega)) (fun j _ hj => (ok_ends HK.out HO.out hj).1)).mono ?_
    rintro r w2 ⟨rfl, hb⟩
    have H2 : Hid (HZ V.heap.size g3 gw gc w2 (pkX W E hs 0 ++ List.replicate (W.length - offs E hs 0) 0) ((offs E hs 0 : Nat) : Int) n (pkC E hs E 0) z0) := by
      obtain ⟨a1, a2, a3, a, c, e, hle, a4⟩ := H0.out
      exact ⟨a1, a2.keep hb, own_keep a3 hb, a, c, e, ⟨hle.1, hle.2.keep hb⟩, a4.imp_right fun ⟨b1, b2, b3, b4, b5⟩ => ⟨b1, b2, b3, b4, b5.keep hb⟩⟩
    have B2 : Hid (Below V.heap.size V w2) := bTrans BC.out hb
    have AT : Hid (∀ k, (if k < hs.length then (hn hs k : Int) else -1) = if k < hs.length then (hn hs k : Int) else -1) := fun _ => rfl
    clear hb x0 x1 x2 H0
    obtain ⟨nx, hnx⟩ : ∃ nx : Nat → Int, nx = fun k => if k < hs.length then (hn hs k : Int) else -1 := ⟨_, rfl⟩
    have HNX : Hid (nx = fun k => if k < hs.length then (hn hs k : Int) else -1) := hnx
    have e0 : (if 0 < hs.length then (hn hs 0 : Int) else -1) = nx 0 := by rw [hnx]
    rw [e0]
    clear hnx e0 AT
    go_wp2
    go_loopw [4] (fun i w' => ∃ k : Nat, k ≤ hs.length ∧ i = .int .i64 (nx k) ∧ HZ V.heap.size g3 gw gc w' (pkX W E hs k ++ List.replicate (W.length - offs E hs k) 0) ((offs E hs k : Nat) : Int) n (pkC E hs E k) z0 ∧ Below V.heap.size V w') (fun i _ => if intOf i < 0 then 0 else hs.length - hs.idxOf (intOf i).toNat)
    case atStart => exact ⟨0, by omega, rfl, H2.out, B2.out⟩
    case round =>
      clear H2 B2
      obtain ⟨k, hk, rfl, hH, hB⟩ := hrel
      have HQ : Hid (HZ V.heap.size g3 gw gc wr (pkX W E hs k ++ List.replicate (W.length - offs E hs k) 0) ((offs E hs k : Nat) : Int) n (pkC E hs E k) z0) := hH
      have BK : Hid (Below V.heap.size V wr) := hB
      clear hH hB
      by_cases hlt : k < hs.length
      · have en := ok_ends HK.out HO.out hlt
        obtain ⟨zn, zv⟩ := ord_get HO.out hlt
        have ol := offs_le HK.out HO.out k hlt
        have oe := offs_end HK.out HO.out hlt
        have lens := pk_lenS HK.out HO.out hk
        have WL : Hid ((wds W (E (hn hs k))).length = (E (hn hs k)).l.toNat) := wds_length HK.out HO.out hlt
        have XL : (pkX W E hs k).length = offs E hs k := pkX_length HK.out HO.out k hk
        have PX : Hid (pkX W E hs (k + 1) = pkX W E hs k ++ wds W (E (hn hs k))) := rfl
        have OS : Hid (offs E hs (k + 1) = offs E hs k + (E (hn hs k)).l.toNat) := rfl
        have PC : Hid (pkC E hs E (k + 1) = up (pkC E hs E k) (hn hs k) ⟨(offs E hs k : Int), (E (hn hs k)).l, true⟩) := rfl
        have CZ : Hid (pkC E hs E k (hn hs k) = E (hn hs k)) := pkC_later HO.out hlt k (Nat.le_refl _)
        have n1 : nx k = ((hn hs k : Nat) : Int) := by rw [HNX.out]; simp [hlt]
        have IDX : Hid (hs.idxOf (hn hs k) = k) := idx_hn HO.out hlt
        have NXT : Hid (∀ (W' : World), Below w.heap.size w W' → Calls Try.prog 98 #[.agg #[.slice wa W.length wc_, .int .i64 t, .slice ca n cc], .int .i64 ((E (hn hs k)).f + (E (hn hs k)).l)] W' fun e w' => e = .returned (.int .i64 (nx (k + 1))) ∧ Below W'.heap.size W' w') := fun W' hb => by
          have := NX.out W' (k + 1) ((E (hn hs k)).f + (E (hn hs k)).l) hb (fun j hj hl => by
            by_cases e : j = k
            · subst e; omega
            · have := ok_behind HK.out HO.out (show j < k by omega) hlt
              have := ok_ends HK.out HO.out hl
              omega) (fun j hj hl => ok_behind HK.out HO.out (show k < j by omega) hl)
          rw [HNX.out]
          exact this
        have NXM : Hid (∀ y : Int, y = nx (k + 1) → (if y < 0 then 0 else hs.length - hs.idxOf y.toNat) < hs.length - k) := fun y hy => by
          rw [hy, HNX.out]
          by_cases h : k + 1 < hs.length
          · simp only [h, if_true]
            rw [if_neg (by omega), Int.toNat_natCast, idx_hn HO.out h]
            omega
          · simp only [h, if_false]
            simp
            omega
        obtain ⟨o, off, rfl, hoo, p0, p1, p2⟩ := (H3.out.keep (bTrans B1.out BK.out)).at zn
        obtain ⟨F, hF⟩ : ∃ F : Nat, (E (hn hs k)).f = (F : Int) := ⟨(E (hn hs k)).f.toNat, by omega⟩
        obtain ⟨Ln, hL⟩ : ∃ Ln : Nat, (E (hn hs k)).l = (Ln : Int) := ⟨(E (hn hs k)).l.toNat, by omega⟩
        have WD : Hid (wds W (E (hn hs k)) = (W.drop F).take Ln) := by show _ = _; unfold wds; rw [hF, hL]; simp
        change wr.cell? ⟨o, off + hn hs k * 3, none⟩ = some (.int .i64 (E (hn hs k)).f) at p0
        change wr.cell? ⟨o, off + hn hs k * 3 + 1, none⟩ = some (.int .i64 (E (hn hs k)).l) at p1
        change wr.cell? ⟨o, off + hn hs k * 3 + 2, none⟩ = some (.bool (E (hn hs k)).v) at p2
        change hn hs k < n at zn
        change (E (hn hs k)).v = true at zv
        have EZ : Hid ((E (hn hs k)).l = (Ln : Int) ∧ (E (hn hs k)).v = true) := ⟨hL, zv⟩
        rw [hF] at p0 ol en NXT
        rw [hL] at p1 en PC NXT
        rw [zv] at p2
        rw [hL, Int.toNat_natCast] at OS WL
        rw [WD.out] at PX WL
        generalize hn hs k = z at *
        rw [n1]
        generalize hT2 : offs E hs (k + 1) = T2 at *
        have HT2 : Hid (offs E hs (k + 1) = T2) := hT2
        clear hT2
        generalize offs E hs k = T1 at *
        obtain ⟨ws, hws⟩ : ∃ ws, ws = (W.drop F).take Ln := ⟨_, rfl⟩
        rw [← hws] at PX WL
        have WG : Hid (∀ j, j < Ln → ws.getD j 0 = W.getD (F + j) 0) := fun j hj => by
          rw [hws, List.getD_eq_getElem?_getD, List.getD_eq_getElem?_getD, List.getElem?_take_of_lt hj, List.getElem?_drop]
        have FIN : Hid (pst (pkX W E hs k ++ List.replicate (W.length - T1) 0) T1 ws Ln = pkX W E hs (k + 1) ++ List.replicate (W.length - T2) 0) := by
          have := pst_eq (pkX W E hs k) ws (W.length - T1) Ln (by rw [WL.out]; exact Nat.le_refl _) (by have := OS.out; omega)
          rw [XL] at this
          show _ = _
          rw [this, PX.out, List.take_of_length_le (by rw [WL.out]; exact Nat.le_refl _), show W.length - T1 - Ln = W.length - T2 by have := OS.out; omega]
        have PL : Hid ((pkX W E hs k ++ List.replicate (W.length - T1) 0).length = W.length) := lens.2
        have XR := X1.out.keep BK.out
        have x0 := XR.c0
        have x2 := XR.c2
        have z1 : (z : Int) < (n : Int) := by omega
        have z0' : ¬ ((z : Int) < 0) := by omega
        have z3 : (z : Int) ≥ 0 := by omega
        have XRR : Hid (Box3 wr w.heap.size (.slice wa W.length wc_) (.int .i64 t) (.slice (some ⟨o, off, none⟩) n cc) 28) := XR
        clear XR hws lens zv hF hL n1
        go_wp2
        clear x0 x2 p0 p1 p2
        generalize hW3 : wr.alloc (.cells #[.int .i64 (F : Int), .int .i64 (Ln : Int), .bool true] 47) = w3
        have B23 : Below wr.heap.size wr w3 := by rw [← hW3]; exact bAlloc (Below.refl _ _) _
        have C3 : Hid (Box3 w3 wr.heap.size (.int .i64 (F : Int)) (.int .i64 (Ln : Int)) (.bool true) 47) := by rw [← hW3]; exact box3_new _ _ _ _ _
        have X3 : Hid (Box3 w3 w.heap.size (.slice wa W.length wc_) (.int .i64 t) (.slice (some ⟨o, off, none⟩) n cc) 28) := XRR.out.keep B23
        have Q3 : Hid (HZ V.heap.size g3 gw gc w3 (pkX W E hs k ++ List.replicate (W.length - T1) 0) (T1 : Int) n (pkC E hs E k) z0) := HQ.out.keep B23
        have B3 : Hid (Below V.heap.size V w3) := bTrans BK.out B23
        have GL : Hid (V.heap.size ≤ wr.heap.size ∧ g3 < wr.heap.size ∧ gw < wr.heap.size ∧ (n = 0 ∨ gc < wr.heap.size)) := ⟨BK.out.size, HQ.out.2.1.lt, lt_of_heapA HQ.out.2.2.1, by obtain ⟨_, _, _, _, h⟩ := HQ.out.2.2.2; exact h.imp_right fun h => h.2.2.2.2.lt⟩
        clear hW3 B23 HQ XRR BK
        generalize wr.heap.size = G at *
        go_loopw [6] (fun i w' => ∃ j : Nat, j ≤ Ln ∧ i = .int .i64 (j : Int) ∧ HZ V.heap.size g3 gw gc w' (pst (pkX W E hs k ++ List.replicate (W.length - T1) 0) T1 ws j) (T1 : Int) n (pkC E hs E k) z0 ∧ Box3 w' G (.int .i64 (F : Int)) (.int .i64 (Ln : Int)) (.bool true) 47 ∧ Below V.heap.size V w') (fun i _ => Ln - (intOf i).toNat)
        case atStart => exact ⟨0, by omega, rfl, Q3.out, C3.out, B3.out⟩
        case round =>
          clear Q3 C3 B3 X3
          obtain ⟨j, hj, rfl, hH, hC, hB⟩ := hrel
          have HJ : Hid (HZ V.heap.size g3 gw gc wr (pst (pkX W E hs k ++ List.replicate (W.length - T1) 0) T1 ws j) (T1 : Int) n (pkC E hs E k) z0) := hH
          have CJ : Hid (Box3 wr G (.int .i64 (F : Int)) (.int .i64 (Ln : Int)) (.bool true) 47) := hC
          have BJ : Hid (Below V.heap.size V wr) := hB
          clear hH hC hB
          obtain ⟨gl1, gl2, gl3, gl4⟩ := GL.out
          have c0 := CJ.out.c0
          have c1 := CJ.out.c1
          by_cases hlt2 : (j : Int) < (Ln : Int)
          · have Q : Hid (Box3 wr g3 (.slice (some ⟨gw, 0, none⟩) W.length W.length) (.int .i64 (T1 : Int)) z0 28) := by
              have := HJ.out.2.1
              rw [pst_len, PL.out] at this
              exact this
            have N3 : g3 ≠ gw := HJ.out.1.2.2
            have XJ : Hid (Box3 wr w.heap.size (.slice wa W.length wc_) (.int .i64 t) (.slice (some ⟨o, off, none⟩) n cc) 28) := X1.out.keep BJ.out
            have LF : F + j < W.length := by omega
            have lv := LV.out
            have hvg : V.heap.size ≤ gw := HJ.out.1.2.1
            obtain ⟨b9, o9, hwa, hb9, q9⟩ : ∃ b9 o9, wa = some ⟨b9, o9, none⟩ ∧ b9 < w.heap.size ∧ wr.cell? ⟨b9, o9 + (F + j), none⟩ = some (.int .i64 (W.getD (F + j) 0)) := by
              obtain ⟨b, oo, e, hb, hc⟩ := H1.out.at (k := F + j) LF
              exact ⟨b, oo, e, hb, ((bTrans B1.out BJ.out).cell (p := ⟨b, oo + (F + j), none⟩) hb).trans hc⟩
            have hgl : T1 + j < (pst (pkX W E hs k ++ List.replicate (W.length - T1) 0) T1 ws j).length := by rw [pst_len, PL.out]; have := OS.out; omega
            have gcell : ∃ u, wr.cell? ⟨gw, T1 + j, none⟩ = some u := ⟨_, cell_at HJ.out.2.2.1 (vals_at hgl)⟩
            obtain ⟨u9, gcell⟩ := gcell
            have gfree : wr.frozen? ⟨gw, T1 + j, none⟩ = false := free_at HJ.out.2.2.1 _
            have NEXT : Hid (HZ V.heap.size g3 gw gc (wr.setCell ⟨gw, T1 + j, none⟩ (.int .i64 (W.getD (F + j) 0))) (pst (pkX W E hs k ++ List.replicate (W.length - T1) 0) T1 ws (j + 1)) (T1 : Int) n (pkC E hs E k) z0) := by
              have := HJ.out.word (T1 + j) (ws.getD j 0)
              show HZ _ _ _ _ _ _ _ _ _ _
              rw [← WG.out j (by omega)]
              exact this
            generalize W.getD (F + j) 0 = x9 at *
            have KB9 : Hid (∀ W' : World, Win gw (gw + 1) wr W' → W'.cell? ⟨g3, 0, none⟩ = some (.slice (some ⟨gw, 0, none⟩) W.length W.length) ∧ W'.cell? ⟨g3, 1, none⟩ = some (.int .i64 (T1 : Int)) ∧ W'.cell? ⟨w.heap.size, 0, none⟩ = some (.slice wa W.length wc_) ∧ W'.cell? ⟨G, 0, none⟩ = some (.int .i64 (F : Int)) ∧ W'.cell? ⟨b9, o9 + (F + j), none⟩ = some (.int .i64 x9)) := fun W' hw => ⟨(Q.out.win hw (by omega)).c0, (Q.out.win hw (by omega)).c1, (XJ.out.win hw (by omega)).c0, (CJ.out.win hw (by omega)).c0, by
              have hbb : b9 < wr.heap.size := by have := B1.out.size; have := BJ.out.size; omega
              have := hw.block b9 hbb (.inl (by have := B1.out.size; omega))
              simp only [World.cell?, this] at q9 ⊢
              exact q9⟩
            have k0 := Q.out.c0
            have k1 := Q.out.c1
            have k2 := XJ.out.c0
            have w1 : IntKind.i64.wrap ((T1 : Int) + (j : Int)) = (T1 : Int) + (j : Int) := by rw [IntKind.wrap_i64]; omega
            have w2 : IntKind.i64.wrap ((F : Int) + (j : Int)) = (F : Int) + (j : Int) := by rw [IntKind.wrap_i64]; omega
            have i1 : (0 : Int) ≤ (T1 : Int) + (j : Int) := by omega
            have i2 : (T1 : Int) + (j : Int) < (W.length : Int) := by have := OS.out; omega
            have i3 : ((T1 : Int) + (j : Int)).toNat = T1 + j := by omega
            have i4 : (0 : Int) ≤ (F : Int) + (j : Int) := by omega
            have i5 : (F : Int) + (j : Int) < (W.length : Int) := by omega
            have i6 : ((F : Int) + (j : Int)).toNat = F + j := by omega
            subst hwa
            go_wp2_with fail
            go_region_held3 (fun w' => w'.cell? ⟨g3, 0, none⟩ = some (.slice (some ⟨gw, 0, none⟩) W.length W.length) ∧ w'.cell? ⟨g3, 1, none⟩ = some (.int .i64 (T1 : Int)) ∧ w'.cell? ⟨w.heap.size, 0, none⟩ = some (.slice (some ⟨b9, o9, none⟩) W.length wc_) ∧ w'.cell? ⟨G, 0, none⟩ = some (.int .i64 (F : Int)) ∧ w'.cell? ⟨b9, o9 + (F + j), none⟩ = some (.int .i64 x9))
              (first | exact ⟨k0, k1, k2, c0, q9⟩ | exact KB9.out _ (win_setCell _ _ _ _) | exact KB9.out _ (winD (win_setCell _ _ _ _)))
              (fail)
            all_goals
              go_wp2
              go_roundw
              case rel => exact ⟨j + 1, by omega, by go_num, NEXT.out.keep ((Below.refl _ _).drew), (CJ.out.other (by omega) _).keep ((Below.refl _ _).drew), Below.drew (below_setCell BJ.out (by omega) _ _)⟩
              case measure => simp [intOf]; omega
          · obtain rfl : j = Ln := by omega
            obtain ⟨za, zc, hz0, hzc, hz4⟩ := HJ.out.2.2.2
            obtain ⟨hza, hLg, hn3, hnw, hCB⟩ : za = some ⟨gc, 0, none⟩ ∧ V.heap.size ≤ gc ∧ g3 ≠ gc ∧ gw ≠ gc ∧ CBlk wr gc n (pkC E hs E k) := by
              rcases hz4 with h | h
              · omega
              · exact h
            subst hza
            have Q : Hid (Box3 wr g3 (.slice (some ⟨gw, 0, none⟩) W.length W.length) (.int .i64 (T1 : Int)) (.slice (some ⟨gc, 0, none⟩) n zc) 28) := by
              have := HJ.out.2.1
              rw [pst_len, PL.out, hz0] at this
              exact this
            have hgc : gc < G := by omega
            have lv := LV.out
            have hv3 : V.heap.size ≤ g3 := HJ.out.1.1
            have XJ : Hid (Box3 wr w.heap.size (.slice wa W.length wc_) (.int .i64 t) (.slice (some ⟨o, off, none⟩) n cc) 28) := X1.out.keep BJ.out
            obtain ⟨d0, d1, d2, e0, e1, e2⟩ := hCB.cells zn
            have H9 : Hid (HZ V.heap.size g3 gw gc (wr.setCell ⟨gc, z * 3, none⟩ (.int .i64 (T1 : Int))) (pkX W E hs (k + 1) ++ List.replicate (W.length - T2) 0) (T1 : Int) n (pkC E hs E (k + 1)) z0) := by
              have := HJ.out.from zn (T1 : Int)
              rw [FIN.out, CZ.out, EZ.out.1, EZ.out.2] at this
              show HZ _ _ _ _ _ _ _ _ _ _
              rw [PC.out]
              exact this
            have Q9 := (Q.out.other hn3 (.int .i64 (T1 : Int)) (o := z * 3))
            have X9 := (XJ.out.other (g' := gc) (by omega) (.int .i64 (T1 : Int)) (o := z * 3))
            have C9 := (CJ.out.other (g' := gc) (by omega) (.int .i64 (T1 : Int)) (o := z * 3))
            have H10 : Hid (HZ V.heap.size g3 gw gc ((wr.setCell ⟨gc, z * 3, none⟩ (.int .i64 (T1 : Int))).setCell ⟨g3, 1, none⟩ (.int .i64 ((T1 : Int) + (j : Int)))) (pkX W E hs (k + 1) ++ List.replicate (W.length - T2) 0) (T2 : Int) n (pkC E hs E (k + 1)) z0) := by
              have := H9.out.top ((T1 : Int) + (j : Int))
              have e : ((T2 : Nat) : Int) = (T1 : Int) + (j : Int) := by have := OS.out; omega
              show HZ _ _ _ _ _ _ _ _ _ _
              rw [e]
              exact this
            have X10 := (X9.other (g' := g3) (by omega) (.int .i64 ((T1 : Int) + (j : Int))) (o := 1))
            have C10 := (C9.other (g' := g3) (by omega) (.int .i64 ((T1 : Int) + (j : Int))) (o := 1))
            have B10 : Hid (Below V.heap.size V ((wr.setCell ⟨gc, z * 3, none⟩ (.int .i64 (T1 : Int))).setCell ⟨g3, 1, none⟩ (.int .i64 ((T1 : Int) + (j : Int))))) := below_setCell (below_setCell BJ.out hLg _ _) hv3 _ _
            have a1 := Q.out.c1
            have a2 := Q.out.c2
            have a3 := Q9.c1
            have a4 := Q9.free 1
            have a5 := C9.c1
            have b0 := X10.c0
            have b1 := X10.c1
            have b2 := X10.c2
            have b3 := C10.c0
            have b4 := C10.c1
            have w1 : IntKind.i64.wrap ((T1 : Int) + (j : Int)) = (T1 : Int) + (j : Int) := by rw [IntKind.wrap_i64]; omega
            have w2 : IntKind.i64.wrap ((F : Int) + (j : Int)) = (F : Int) + (j : Int) := by rw [IntKind.wrap_i64]; omega
            clear Q9 X9 C9 X10 C10 hz0 hz4 hCB d1 d2 e1 e2
            go_wp2_with fail
            clear a1 a2 a3 a4 a5 b0 b1 b2 b3 b4 d0 e0
            generalize (wr.setCell ⟨gc, z * 3, none⟩ (.int .i64 (T1 : Int))).setCell ⟨g3, 1, none⟩ (.int .i64 ((T1 : Int) + (j : Int))) = w5 at *
            refine (NXT.out _ (bTrans B1.out B10.out)).mono ?_
            rintro r w6 ⟨rfl, hb⟩
            have H11 : Hid (HZ V.heap.size g3 gw gc w6 (pkX W E hs (k + 1) ++ List.replicate (W.length - offs E hs (k + 1)) 0) ((offs E hs (k + 1) : Nat) : Int) n (pkC E hs E (k + 1)) z0) := by
              show HZ _ _ _ _ _ _ _ _ _ _
              rw [HT2.out]
              exact H10.out.keep hb
            have B11 : Hid (Below V.heap.size V w6) := bTrans B10.out hb
            have MS : Hid ((if nx (k + 1) < 0 then 0 else hs.length - hs.idxOf (nx (k + 1)).toNat) < hs.length - k) := NXM.out _ rfl
            have IX := IDX.out
            clear hb H10 B10
            go_wp2
            go_roundw
            case rel => exact ⟨k + 1, by omega, rfl, H11.out, B11.out⟩
            case measure =>
              show (if nx (k + 1) < 0 then 0 else hs.length - hs.idxOf (nx (k + 1)).toNat) < (if (z : Int) < 0 then 0 else hs.length - hs.idxOf (z : Int).toNat)
              have e : (if (z : Int) < 0 then 0 else hs.length - hs.idxOf (z : Int).toNat) = hs.length - k := by rw [if_neg (by omega), Int.toNat_natCast, IX]
              rw [e]
              exact MS.out
      · obtain rfl : k = hs.length := by omega
        have e1 : nx hs.length = -1 := by rw [HNX.out]; simp
        rw [e1]
        obtain ⟨za, zc, hz0, hzl, _⟩ := HQ.out.2.2.2
        have CZC : Hid (Cap wr za n zc) := hzl.2
        clear hzl
        have HF : Hid (HX V.heap.size wr.heap.size wr (.agg #[.slice (some ⟨gw, 0, none⟩) W.length W.length, .int .i64 ((offs E hs hs.length : Nat) : Int), .slice za n zc]) (pkX W E hs hs.length ++ List.replicate (W.length - offs E hs hs.length) 0) ((offs E hs hs.length : Nat) : Int) n (pkC E hs E hs.length)) := by
          have := HQ.out.hx
          rw [(pk_lenS HK.out HO.out (Nat.le_refl _)).2, hz0] at this
          exact this
        have Q3 : Hid (Box3 wr g3 (.slice (some ⟨gw, 0, none⟩) W.length W.length) (.int .i64 ((offs E hs hs.length : Nat) : Int)) (.slice za n zc) 28) := by
          have := HQ.out.2.1
          rw [(pk_lenS HK.out HO.out (Nat.le_refl _)).2, hz0] at this
          exact this
        have YR : Hid (Box3 wr (w.heap.size + 1) (.slice none 0 0) (.int .i64 0) (.slice none 0 0) 28) := Y1.out.keep BK.out
        have q0 := Q3.out.c0
        have q1 := Q3.out.c1
        have q2 := Q3.out.c2
        have r0 := YR.out.c0
        have r1 := YR.out.c1
        have r2 := YR.out.c2
        have f0 := YR.out.free 0
        have f1 := YR.out.free 1
        have f2 := YR.out.free 2
        generalize hT : ((offs E hs hs.length : Nat) : Int) = T at *
        clear hz0 e1
        go_wp2
        clear q0 q1 q2 r0 r1 r2 f0 f1 f2
        generalize hZ : ((wr.setCell ⟨w.heap.size + 1, 0, none⟩ (.slice (some ⟨gw, 0, none⟩) W.length W.length)).setCell ⟨w.heap.size + 1, 1, none⟩ (.int .i64 T)).setCell ⟨w.heap.size + 1, 2, none⟩ (.slice za n zc) = wz
        have YZ : Box3 wz (w.heap.size + 1) (.slice (some ⟨gw, 0, none⟩) W.length W.length) (.int .i64 T) (.slice za n zc) 28 := by rw [← hZ]; exact ((YR.out.set0 _).set1 _).set2 _
        have WZ : Win (w.heap.size + 1) (w.heap.size + 1 + 1) wr wz := by rw [← hZ]; exact ((win_setCell _ _ _ _).trans (win_setCell _ _ _ _)).trans (win_setCell _ _ _ _)
        have BZ : Below w.heap.size w wz := by rw [← hZ]; exact below_setCell (below_setCell (below_setCell (bTrans B1.out BK.out) (by omega) _ _) (by omega) _ _) (by omega) _ _
        have v0 := YZ.c0
        have v1 := YZ.c1
        have v2 := YZ.c2
        refine bodyPost_ret (v := .agg #[.slice (some ⟨gw, 0, none⟩) W.length W.length, .int .i64 T, .slice za n zc]) (by simp [results, Try.results62, go_sem, v0, v1, v2]) rfl ?_
        have lv := LV.out
        exact ⟨_, rfl, by rw [hT]; exact (HF.out.win WZ (.inr (by omega))).mono (by omega) WZ.size, ⟨_, _, _, _, rfl, by rw [← hZ]; exact ((CZC.out.set _ _ _).set _ _ _).set _ _ _⟩, BZ⟩
theorem pack_spec {w : World} {v : Value} {W : List Int} {t : Int} {n : Nat} {E : Nat → Cel} {hs : List Nat} (h : HI w v W t n E) (hk : hOk W.length t n E) (ho : Ord E n hs) :
    Calls Try.prog 62 #[v] w fun e w' => ∃ v' : Value, e = .returned v' ∧ HX w.heap.size w'.heap.size w' v' (pkX W E hs hs.length ++ List.replicate (W.length - offs E hs hs.length) 0) (offs E hs hs.length) n (pkC E hs E hs.length) ∧ Below w.heap.size w w' :=
  (pack_spec2 h hk ho).mono fun _ _ ⟨v', e, hx, _, hb⟩ => ⟨v', e, hx, hb⟩
end Go.Proofs.Ytmmjidhpmbcoiaa
