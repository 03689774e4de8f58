/-
  Walks: HeapDrop, of the specification and of the program.
-/
import Derived.Test.YtalcallmkbdnlabHeapT
import Derived.Test.YtalcallmkbdnlabHeapI3
namespace Go.Proofs.Ytalcallmkbdnlab
open Go.RowKit
set_option linter.unusedVariables false
set_option linter.unusedSimpArgs false
/-- The cells without that one. -/
def dropE (n : Nat) (E : Nat → Cel) (i : Int) : Nat → Cel := if liveB n E i = true then up E i.toNat cel0 else E
theorem liveB_at {n : Nat} {E : Nat → Cel} {i : Int} (h : liveB n E i = true) : ∃ k : Nat, i = (k : Int) ∧ k < n ∧ (E k).v = true := by
  unfold liveB at h
  simp at h
  obtain ⟨k, rfl⟩ : ∃ k : Nat, i = (k : Int) := ⟨i.toNat, by omega⟩
  exact ⟨k, rfl, by omega, by simpa using h.2⟩
/-- A heap's window as one in which its cells alone turn. -/
theorem HP.turn {B C lo hi : Nat} {w w' : World} {x z : Value} {W : List Int} {t : Int} {n : Nat} {E E' : Nat → Cel} {M : Nat} (h1 : Piece B M w x W) (hM : B ≤ M) (hC : M ≤ C) (hw : Win M hi w w') (hz : CPiece M C w' z n E') : HP B C w' (.agg #[x, .int .i64 t, z]) W t n E' :=
  ⟨x, z, M, rfl, hM, hC, h1.win hw (.inl (Nat.le_refl _)), hz⟩
set_option maxRecDepth 20000 in
set_option maxHeartbeats 8000000 in
theorem drop_spec {B C : Nat} {w : World} {v : Value} {W : List Int} {t : Int} {n : Nat} {E : Nat → Cel} (h : HP B C w v W t n E) (hC : C ≤ w.heap.size) {k : Nat} (hk : k < n) (hn : n ≤ 1048576) :
    Calls Try.prog 40 #[v, .int .i64 (k : Int)] w fun e w' => ∃ v', e = .returned v' ∧ HP B C w' v' W t n (up E k cel0) ∧ Below B w w' := by
  obtain ⟨x, z, M, rfl, m1, m2, h1, h2⟩ := h
  obtain ⟨ca, cc, rfl, hcc, h2⟩ := h2
  rcases h2 with h2 | ⟨g, rfl, hg1, hg2, h2⟩
  · omega
  have H1 : Hid (Piece B M w x W) := h1
  have HG : Hid (M ≤ g ∧ g < C) := ⟨hg1, hg2⟩
  obtain ⟨wa, wc, rfl, _⟩ := h1
  have hi : (k : Int) < (n : Int) := by omega
  go_enter Try.func40, Try.ntmps40
  generalize hz : w.heap.size = sz at *
  obtain ⟨A, hA⟩ : ∃ A, A = (w.alloc (.cells #[.slice wa W.length wc, .int .i64 t, .slice (some ⟨g, 0, none⟩) n cc] 29)).alloc (.cells #[.slice none 0 0, .int .i64 0, .slice none 0 0] 29) := ⟨_, rfl⟩
  have BA : Below w.heap.size w A := by rw [hA]; exact bAlloc (bAlloc (Below.refl _ _) _) _
  have HB : Hid (CBlk A g n E) := h2.keep BA
  obtain ⟨c0, c1, c2, f0, f1, f2⟩ := HB.out.cells hk
  rw [hA] at c0 c1 c2 f0 f1 f2
  go_wp2
  clear c0 c1 c2 f0 f1 f2
  rw [← hA]
  have YA : Hid (Box3 A (sz + 1) (.slice none 0 0) (.int .i64 0) (.slice none 0 0) 29) := by
    have := box3_new (w.alloc (.cells #[.slice wa W.length wc, .int .i64 t, .slice (some ⟨g, 0, none⟩) n cc] 29)) (.slice none 0 0) (.int .i64 0) (.slice none 0 0) 29
    show Box3 _ _ _ _ _ _
    rw [hA, ← hz]; simpa using this
  clear hA
  have TB : Hid (CBlk (((A.setCell ⟨g, k * 3, none⟩ (.int .i64 0)).setCell ⟨g, k * 3 + 1, none⟩ (.int .i64 0)).setCell ⟨g, k * 3 + 2, none⟩ (.bool false)) g n (up E k cel0)) := HB.out.set hk cel0
  have WT : Win g (g + 1) A (((A.setCell ⟨g, k * 3, none⟩ (.int .i64 0)).setCell ⟨g, k * 3 + 1, none⟩ (.int .i64 0)).setCell ⟨g, k * 3 + 2, none⟩ (.bool false)) := set3_win _ _ _ _ _ _
  have hgs : g < sz := by omega
  have YT := YA.out.win WT (by omega)
  generalize hT : ((A.setCell ⟨g, k * 3, none⟩ (.int .i64 0)).setCell ⟨g, k * 3 + 1, none⟩ (.int .i64 0)).setCell ⟨g, k * 3 + 2, none⟩ (.bool false) = AT at *
  generalize hZ : ((AT.setCell ⟨sz + 1, 0, none⟩ (.slice wa W.length wc)).setCell ⟨sz + 1, 1, none⟩ (.int .i64 t)).setCell ⟨sz + 1, 2, none⟩ (.slice (some ⟨g, 0, none⟩) n cc) = wz
  have YZ : Box3 wz (sz + 1) (.slice wa W.length wc) (.int .i64 t) (.slice (some ⟨g, 0, none⟩) n cc) 29 := by rw [← hZ]; exact ((YT.set0 _).set1 _).set2 _
  have WZ : Win (sz + 1) (sz + 1 + 1) AT wz := by rw [← hZ]; exact ((win_setCell _ _ _ _).trans (win_setCell _ _ _ _)).trans (win_setCell _ _ _ _)
  have WA : Win M (sz + 1 + 1) A wz := by
    have s1 := WT.size
    have s2 := WZ.size
    exact ⟨by rw [WZ.os, WT.os], by rw [WZ.tape, WT.tape], by rw [WZ.output, WT.output], by omega, fun j hj hd => by rw [WZ.block j (by omega) (by omega), WT.block j hj (by omega)]⟩
  have v0 := YZ.c0
  have v1 := YZ.c1
  have v2 := YZ.c2
  clear hZ hT
  refine bodyPost_ret (v := .agg #[.slice wa W.length wc, .int .i64 t, .slice (some ⟨g, 0, none⟩) n cc]) (by simp [results, Try.results40, go_sem, v0, v1, v2]) rfl ?_
  rw [hz] at BA
  have sA := BA.size
  exact ⟨_, rfl, HP.turn (lo := 0) (E := E) (H1.out.keep (by rw [hz]; exact BA)) m1 m2 WA ⟨_, _, rfl, hcc, .inr ⟨g, rfl, hg1, hg2, TB.out.win WZ (by omega)⟩⟩, (BA.mono (by omega)).trans (WA.below m1 (by omega))⟩
theorem win_drew {B C : Nat} {w w' : World} (h : Win B C w w') : Win B C w w'.drew := ⟨h.os, h.tape, h.output, h.size, h.block⟩
theorem fit_dead {t : Int} {c : Cel} (h : fit t c) (hv : c.v = false) : c = cel0 := Cel.ext' (h.1 hv).1 (h.1 hv).2 hv
set_option maxRecDepth 20000 in
set_option maxHeartbeats 8000000 in
/-- The cell under a handle, and whether it is in use. -/
theorem at_impl {w : World} {ca : Option Addr} {n cc : Nat} {E : Nat → Cel} {t : Int} (h : CsA w ca n E) (hf : ∀ i, i < n → fit t (E i)) (i : Int) (hn : n ≤ 1048576) :
    Calls Try.prog 72 #[.slice ca n cc, .int .i64 i] w fun e w' => e = .returned (.tuple #[.agg #[.int .i64 (atC n E i).f, .int .i64 (atC n E i).l, .bool (atC n E i).v], .bool (liveB n E i)]) ∧ Below w.heap.size w w' := by
  by_cases c1 : i < 0
  · have e1 : atC n E i = cel0 := by unfold atC; rw [if_neg (by omega)]
    have e2 : liveB n E i = false := by unfold liveB; simp; omega
    rw [e1, e2]
    clear h hf
    go_enter Try.func72, Try.ntmps72
    go_wp2
    go_returns
    exact ⟨rfl, bAlloc (bAlloc (Below.refl _ _) _) _⟩
  by_cases c2 : i ≥ (n : Int)
  · have e1 : atC n E i = cel0 := by unfold atC; rw [if_neg (by omega)]
    have e2 : liveB n E i = false := by unfold liveB; simp; omega
    rw [e1, e2]
    clear h hf
    go_enter Try.func72, Try.ntmps72
    go_wp2
    go_returns
    exact ⟨rfl, bAlloc (bAlloc (Below.refl _ _) _) _⟩
  obtain ⟨k, rfl⟩ : ∃ k : Nat, i = (k : Int) := ⟨i.toNat, by omega⟩
  have hk : k < n := by omega
  have e1 : atC n E (k : Int) = E k := by unfold atC; rw [if_pos (by omega)]; simp
  have e2 : liveB n E (k : Int) = (E k).v := by unfold liveB; simp; omega
  rw [e1, e2]
  obtain ⟨V, hV⟩ : ∃ V, V = (w.alloc (.cells #[.int .i64 0, .int .i64 0, .bool false] 52)).alloc (.cells #[.int .i64 0, .int .i64 0, .bool false] 52) := ⟨_, rfl⟩
  have BV : Hid (Below w.heap.size w V) := by rw [hV]; exact bAlloc (bAlloc (Below.refl _ _) _) _
  obtain ⟨o, off, rfl, ho, p0, p1, p2⟩ := (h.keep BV.out).at hk
  have R : Hid (Box3 V w.heap.size (.int .i64 0) (.int .i64 0) (.bool false) 52) := by rw [hV]; exact (box3_new _ _ _ _ _).alloc _
  have Q : Hid (Box3 V (w.heap.size + 1) (.int .i64 0) (.int .i64 0) (.bool false) 52) := by
    have := box3_new (w.alloc (.cells #[.int .i64 0, .int .i64 0, .bool false] 52)) (.int .i64 0) (.int .i64 0) (.bool false) 52
    show Box3 _ _ _ _ _ _
    rw [hV]; simpa using this
  have fk := hf k hk
  have hoo : o < w.heap.size := by
    obtain ⟨o', off', e, ho', _⟩ := h.at hk
    cases e; exact ho'
  have i1 : (k : Int) < (n : Int) := by omega
  have n1 : ¬ (k : Int) < 0 := by omega
  have n2 : ¬ (k : Int) ≥ (n : Int) := by omega
  have q0 := Q.out.c0
  have q1 := Q.out.c1
  have q2 := Q.out.c2
  have r0 := R.out.c0
  have r1 := R.out.c1
  have r2 := R.out.c2
  have f0 := R.out.free 0
  have f1 := R.out.free 1
  have f2 := R.out.free 2
  clear h hf e1 e2 ho
  generalize E k = c at *
  obtain ⟨f, l, b⟩ := c
  simp only at p0 p1 p2 fk ⊢
  have KP : Hid (∀ W' : World, Win w.heap.size (w.heap.size + 1) V W' → W'.cell? ⟨o, off + k * 3, none⟩ = some (.int .i64 f) ∧ W'.cell? ⟨o, off + k * 3 + 1, none⟩ = some (.int .i64 l) ∧ W'.cell? ⟨o, off + k * 3 + 2, none⟩ = some (.bool b) ∧ W'.cell? ⟨w.heap.size + 1, 0, none⟩ = some (.int .i64 0) ∧ W'.cell? ⟨w.heap.size + 1, 1, none⟩ = some (.int .i64 0) ∧ W'.cell? ⟨w.heap.size + 1, 2, none⟩ = some (.bool false)) := fun W' hw => by
    have hblk := hw.block o (by have := BV.out.size; omega) (.inl hoo)
    have cc : ∀ j, W'.cell? ⟨o, j, none⟩ = V.cell? ⟨o, j, none⟩ := fun j => by simp only [World.cell?, hblk]
    have Q' := Q.out.win hw (.inr (Nat.le_refl _))
    exact ⟨by rw [cc]; exact p0, by rw [cc]; exact p1, by rw [cc]; exact p2, Q'.c0, Q'.c1, Q'.c2⟩
  have SET : Hid (∀ x y z : Value, Win w.heap.size (w.heap.size + 1) V (((V.setCell ⟨w.heap.size, 0, none⟩ x).setCell ⟨w.heap.size, 1, none⟩ y).setCell ⟨w.heap.size, 2, none⟩ z)) := fun x y z => ((win_setCell _ _ _ _).trans (win_setCell _ _ _ _)).trans (win_setCell _ _ _ _)
  cases b with
  | false =>
    obtain ⟨rfl, rfl⟩ : f = 0 ∧ l = 0 := fk.1 rfl
    go_enter Try.func72, Try.ntmps72
    go_wp2
    rw [← hV]
    clear hV
    go_region_held3 (fun w' => w'.cell? ⟨o, off + k * 3, none⟩ = some (.int .i64 0) ∧ w'.cell? ⟨o, off + k * 3 + 1, none⟩ = some (.int .i64 0) ∧ w'.cell? ⟨o, off + k * 3 + 2, none⟩ = some (.bool false) ∧ w'.cell? ⟨w.heap.size + 1, 0, none⟩ = some (.int .i64 0) ∧ w'.cell? ⟨w.heap.size + 1, 1, none⟩ = some (.int .i64 0) ∧ w'.cell? ⟨w.heap.size + 1, 2, none⟩ = some (.bool false))
      (first | exact ⟨p0, p1, p2, q0, q1, q2⟩ | exact KP.out _ (SET.out _ _ _) | exact KP.out _ (win_drew (SET.out _ _ _)))
      (fail)
    go_wp2
    generalize hZ : ((V.setCell ⟨w.heap.size, 0, none⟩ (.int .i64 0)).setCell ⟨w.heap.size, 1, none⟩ (.int .i64 0)).setCell ⟨w.heap.size, 2, none⟩ (.bool false) = wz
    have RZ : Box3 wz w.heap.size (.int .i64 0) (.int .i64 0) (.bool false) 52 := by rw [← hZ]; exact ((R.out.set0 _).set1 _).set2 _
    have WZ : Hid (Win w.heap.size (w.heap.size + 1) V wz) := by rw [← hZ]; exact SET.out _ _ _
    have v0 : wz.drew.cell? ⟨w.heap.size, 0, none⟩ = some (.int .i64 0) := RZ.c0
    have v1 : wz.drew.cell? ⟨w.heap.size, 1, none⟩ = some (.int .i64 0) := RZ.c1
    have v2 : wz.drew.cell? ⟨w.heap.size, 2, none⟩ = some (.bool false) := RZ.c2
    clear hZ
    refine bodyPost_ret (v := .tuple #[.agg #[.int .i64 0, .int .i64 0, .bool false], .bool false]) (by simp [results, Try.results72, go_sem, v0, v1, v2]) rfl ?_
    exact ⟨rfl, BV.out.trans ((win_drew WZ.out).below (Nat.le_refl _) BV.out.size)⟩
  | true =>
    have l0 : ¬ l = 0 := by have := (fk.2 rfl).1; simp at this; omega
    by_cases e0 : f = 0
    · subst e0
      go_enter Try.func72, Try.ntmps72
      go_wp2
      rw [← hV]
      clear hV
      go_region_held3 (fun w' => w'.cell? ⟨o, off + k * 3, none⟩ = some (.int .i64 0) ∧ w'.cell? ⟨o, off + k * 3 + 1, none⟩ = some (.int .i64 l) ∧ w'.cell? ⟨o, off + k * 3 + 2, none⟩ = some (.bool true) ∧ w'.cell? ⟨w.heap.size + 1, 0, none⟩ = some (.int .i64 0) ∧ w'.cell? ⟨w.heap.size + 1, 1, none⟩ = some (.int .i64 0) ∧ w'.cell? ⟨w.heap.size + 1, 2, none⟩ = some (.bool false))
        (first | exact ⟨p0, p1, p2, q0, q1, q2⟩ | exact KP.out _ (SET.out _ _ _) | exact KP.out _ (win_drew (SET.out _ _ _)))
        (fail)
      go_wp2
      generalize hZ : ((V.setCell ⟨w.heap.size, 0, none⟩ (.int .i64 0)).setCell ⟨w.heap.size, 1, none⟩ (.int .i64 l)).setCell ⟨w.heap.size, 2, none⟩ (.bool true) = wz
      have RZ : Box3 wz w.heap.size (.int .i64 0) (.int .i64 l) (.bool true) 52 := by rw [← hZ]; exact ((R.out.set0 _).set1 _).set2 _
      have WZ : Hid (Win w.heap.size (w.heap.size + 1) V wz) := by rw [← hZ]; exact SET.out _ _ _
      have v0 : wz.drew.cell? ⟨w.heap.size, 0, none⟩ = some (.int .i64 0) := RZ.c0
      have v1 : wz.drew.cell? ⟨w.heap.size, 1, none⟩ = some (.int .i64 l) := RZ.c1
      have v2 : wz.drew.cell? ⟨w.heap.size, 2, none⟩ = some (.bool true) := RZ.c2
      clear hZ
      refine bodyPost_ret (v := .tuple #[.agg #[.int .i64 0, .int .i64 l, .bool true], .bool true]) (by simp [results, Try.results72, go_sem, v0, v1, v2]) rfl ?_
      exact ⟨rfl, BV.out.trans ((win_drew WZ.out).below (Nat.le_refl _) BV.out.size)⟩
    · skip
      go_enter Try.func72, Try.ntmps72
      go_wp2
      rw [← hV]
      clear hV
      go_region_held3 (fun w' => w'.cell? ⟨o, off + k * 3, none⟩ = some (.int .i64 f) ∧ w'.cell? ⟨o, off + k * 3 + 1, none⟩ = some (.int .i64 l) ∧ w'.cell? ⟨o, off + k * 3 + 2, none⟩ = some (.bool true) ∧ w'.cell? ⟨w.heap.size + 1, 0, none⟩ = some (.int .i64 0) ∧ w'.cell? ⟨w.heap.size + 1, 1, none⟩ = some (.int .i64 0) ∧ w'.cell? ⟨w.heap.size + 1, 2, none⟩ = some (.bool false))
        (first | exact ⟨p0, p1, p2, q0, q1, q2⟩ | exact KP.out _ (SET.out _ _ _) | exact KP.out _ (win_drew (SET.out _ _ _)))
        (fail)
      go_wp2
      generalize hZ : ((V.setCell ⟨w.heap.size, 0, none⟩ (.int .i64 f)).setCell ⟨w.heap.size, 1, none⟩ (.int .i64 l)).setCell ⟨w.heap.size, 2, none⟩ (.bool true) = wz
      have RZ : Box3 wz w.heap.size (.int .i64 f) (.int .i64 l) (.bool true) 52 := by rw [← hZ]; exact ((R.out.set0 _).set1 _).set2 _
      have WZ : Hid (Win w.heap.size (w.heap.size + 1) V wz) := by rw [← hZ]; exact SET.out _ _ _
      have v0 : wz.drew.cell? ⟨w.heap.size, 0, none⟩ = some (.int .i64 f) := RZ.c0
      have v1 : wz.drew.cell? ⟨w.heap.size, 1, none⟩ = some (.int .i64 l) := RZ.c1
      have v2 : wz.drew.cell? ⟨w.heap.size, 2, none⟩ = some (.bool true) := RZ.c2
      clear hZ
      refine bodyPost_ret (v := .tuple #[.agg #[.int .i64 f, .int .i64 l, .bool true], .bool true]) (by simp [results, Try.results72, go_sem, v0, v1, v2]) rfl ?_
      exact ⟨rfl, BV.out.trans ((win_drew WZ.out).below (Nat.le_refl _) BV.out.size)⟩
set_option maxRecDepth 20000 in
set_option maxHeartbeats 8000000 in
/-- A cell is set. -/
theorem with_impl {w : World} {g n cc k : Nat} {E : Nat → Cel} (h : CBlk w g n E) (hk : k < n) (c : Cel) (hn : n ≤ 1048576) :
    Calls Try.prog 73 #[.slice (some ⟨g, 0, none⟩) n cc, .int .i64 (k : Int), .agg #[.int .i64 c.f, .int .i64 c.l, .bool c.v]] w fun e w' => e = .returned (.slice (some ⟨g, 0, none⟩) n cc) ∧ CBlk w' g n (up E k c) ∧ Win g (g + 1) w w' := by
  obtain ⟨V, hV⟩ : ∃ V, V = w.alloc (.cells #[.int .i64 c.f, .int .i64 c.l, .bool c.v] 52) := ⟨_, rfl⟩
  have BV : Below w.heap.size w V := by rw [hV]; exact bAlloc (Below.refl _ _) _
  have HB : Hid (CBlk V g n E) := h.keep BV
  have T3 : Hid (CBlk (((V.setCell ⟨g, k * 3, none⟩ (.int .i64 c.f)).setCell ⟨g, k * 3 + 1, none⟩ (.int .i64 c.l)).setCell ⟨g, k * 3 + 2, none⟩ (.bool c.v)) g n (up E k c)) := HB.out.set hk c
  have W3 : Hid (Win g (g + 1) w (((V.setCell ⟨g, k * 3, none⟩ (.int .i64 c.f)).setCell ⟨g, k * 3 + 1, none⟩ (.int .i64 c.l)).setCell ⟨g, k * 3 + 2, none⟩ (.bool c.v))) := (Below.win BV).trans (set3_win _ _ _ _ _ _)
  obtain ⟨c0, c1, c2, f0, f1, f2⟩ := HB.out.cells hk
  have hne : ¬ ((k : Int) = (n : Int)) := by omega
  have hi : (k : Int) < (n : Int) := by omega
  rw [hV] at c0 c1 c2 f0 f1 f2 T3 W3
  clear hV BV h HB
  obtain ⟨f, l, b⟩ := c
  simp only at T3 W3 ⊢
  go_enter Try.func73, Try.ntmps73
  go_wp2
  go_ret
  exact ⟨rfl, T3.out, W3.out⟩
set_option maxRecDepth 20000 in
set_option maxHeartbeats 8000000 in
/-- The heap at an address without that array. -/
theorem drop_impl {w : World} {q : Nat} {x : Value} {t : Int} {z : Value} {n : Nat} {E : Nat → Cel} {lo C : Nat} (hX : Box3 w q x (.int .i64 t) z 29) (hz : CPiece lo C w z n E) (hq : C ≤ q) (hlo : lo ≤ C) (hf : ∀ i, i < n → fit t (E i)) (i : Int) (hn : n ≤ 1048576) :
    Calls Try.prog 44 #[.pointer (some ⟨q, 0, none⟩), .int .i64 i] w fun e w' => e = .returned (.bool (liveB n E i)) ∧ Box3 w' q x (.int .i64 t) z 29 ∧ CPiece lo C w' z n (dropE n E i) ∧ Win lo (q + 1) w w' := by
  have X : Hid (Box3 w q x (.int .i64 t) z 29) := hX
  have Z : Hid (CPiece lo C w z n E) := hz
  have lq := hX.lt
  obtain ⟨ca, cc, rfl, hcc, hz⟩ := hz
  have AT : Hid (∀ W', Below w.heap.size w W' → Calls Try.prog 72 #[.slice ca n cc, .int .i64 i] W' fun e w' => e = .returned (.tuple #[.agg #[.int .i64 (atC n E i).f, .int .i64 (atC n E i).l, .bool (atC n E i).v], .bool (liveB n E i)]) ∧ Below W'.heap.size W' w') := fun W' hb => at_impl (by obtain ⟨_, _, e, _, h⟩ := (Z.out.keep hb).csI; cases e; exact h) hf i hn
  have x2 := X.out.c2
  go_enter Try.func44, Try.ntmps44
  go_wp2_with fail
  refine (AT.out _ (Below.refl _ _)).mono ?_
  rintro r w1 ⟨rfl, hb⟩
  generalize hC : (Obj.cells #[.int .i64 (atC n E i).f, .int .i64 (atC n E i).l, .bool (atC n E i).v] 52) = CO
  have B1 : Hid (Below w.heap.size w (w1.alloc CO)) := bAlloc hb _
  generalize (atC n E i).f = af at *
  generalize (atC n E i).l = al at *
  generalize (atC n E i).v = av at *
  clear hb x2
  by_cases ll : liveB n E i = true
  case neg =>
    have e1 : liveB n E i = false := by simpa using ll
    have e2 : dropE n E i = E := by unfold dropE; rw [if_neg ll]
    rw [e1]
    go_wp2
    go_ret
    rw [e1, e2]
    exact ⟨rfl, X.out.keep B1.out, Z.out.keep B1.out, Below.win B1.out⟩
  case pos =>
    obtain ⟨k, rfl, hk, hv⟩ := liveB_at ll
    have e2 : dropE n E (k : Int) = up E k cel0 := by unfold dropE; rw [if_pos ll]; simp
    rcases hz with hz | ⟨g, rfl, hg1, hg2, hz⟩
    · omega
    have ZB : Hid (CBlk (w1.alloc CO) g n E) := hz.keep B1.out
    have X1 : Hid (Box3 (w1.alloc CO) q x (.int .i64 t) (.slice (some ⟨g, 0, none⟩) n cc) 29) := X.out.keep B1.out
    rw [ll]
    go_wp2_with fail
    have WI := with_impl (cc := cc) ZB.out hk cel0 hn
    refine WI.mono ?_
    rintro r w2 ⟨rfl, hB, hW⟩
    have ZB2 : Hid (CBlk w2 g n (up E k cel0)) := hB
    have WW : Hid (Win g (g + 1) (w1.alloc CO) w2) := hW
    have X2 : Hid (Box3 w2 q x (.int .i64 t) (.slice (some ⟨g, 0, none⟩) n cc) 29) := X1.out.win hW (by omega)
    clear hB hW WI
    have x2 := X2.out.c2
    have f2 := X2.out.free 2
    go_wp2
    go_ret
    rw [ll, e2]
    have s1 := B1.out.size
    have s2 := WW.out.size
    refine ⟨rfl, X2.out.set2 _, ⟨_, _, rfl, hcc, .inr ⟨g, rfl, hg1, hg2, ZB2.out.win (win_setCell _ _ _ _) (by omega)⟩⟩, ?_⟩
    have WS := win_setCell w2 q 2 (.slice (some ⟨g, 0, none⟩) n cc)
    exact ⟨by rw [WS.os, WW.out.os, B1.out.os], by rw [WS.tape, WW.out.tape, B1.out.tape], by rw [WS.output, WW.out.output, B1.out.output], Nat.le_trans s1 (Nat.le_trans s2 WS.size), fun j hj hd => by rw [WS.block j (by omega) (by omega), WW.out.block j (by omega) (by omega), B1.out.block j hj]⟩
end Go.Proofs.Ytalcallmkbdnlab
