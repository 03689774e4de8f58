
/-
  Walks: cells under handles: looked at, set.
-/
import Derived.Test.YtfmfppndcbmohaaHeapT
import Derived.Test.YtfmfppndcbmohaaHeapI3
namespace Go.Proofs.Ytfmfppndcbmohaa
open Go.RowKit
set_option linter.unusedVariables false
set_option linter.unusedSimpArgs false
/-- The cells without that one. -/
def dropE (n : Nat) (E : Nat → Cel) (i : Int) : Nat → Cel := if liveB n E i = true then up E i.toNat cel0 else E
theorem liveB_at {n : Nat} {E : Nat → Cel} {i : Int} (h : liveB n E i = true) : ∃ k : Nat, i = (k : Int) ∧ k < n ∧ (E k).v = true := by
  unfold liveB at h
  simp at h
  obtain ⟨k, rfl⟩ : ∃ k : Nat, i = (k : Int) := ⟨i.toNat, by omega⟩
  exact ⟨k, rfl, by omega, by simpa using h.2⟩
/-- A heap's window as one in which its cells alone turn. -/
theorem HP.turn {B C lo hi : Nat} {w w' : World} {x z : Value} {W : List Int} {t : Int} {n : Nat} {E E' : Nat → Cel} {M : Nat} (h1 : Piece B M w x W) (hM : B ≤ M) (hC : M ≤ C) (hw : Win M hi w w') (hz : CPiece M C w' z n E') : HP B C w' (.agg #[x, .int .i64 t, z]) W t n E' :=
  ⟨x, z, M, rfl, hM, hC, h1.win hw (.inl (Nat.le_refl _)), hz⟩
theorem win_drew {B C : Nat} {w w' : World} (h : Win B C w w') : Win B C w w'.drew := ⟨h.os, h.tape, h.output, h.size, h.block⟩
theorem fit_dead {t : Int} {c : Cel} (h : fit t c) (hv : c.v = false) : c = cel0 := Cel.ext' (h.1 hv).1 (h.1 hv).2 hv
set_option maxRecDepth 20000 in
set_option maxHeartbeats 8000000 in
/-- The cell under a handle, and whether it is in use. -/
theorem at_impl {w : World} {ca : Option Addr} {n cc : Nat} {E : Nat → Cel} {t : Int} (h : CsA w ca n E) (hf : ∀ i, i < n → fit t (E i)) (i : Int) (hn : n ≤ 1048576) :
    Calls Try.prog 73 #[.slice ca n cc, .int .i64 i] w fun e w' => e = .returned (.tuple #[.agg #[.int .i64 (atC n E i).f, .int .i64 (atC n E i).l, .bool (atC n E i).v], .bool (liveB n E i)]) ∧ Below w.heap.size w w' := by
  by_cases c1 : i < 0
  · have e1 : atC n E i = cel0 := by unfold atC; rw [if_neg (by omega)]
    have e2 : liveB n E i = false := by unfold liveB; simp; omega
    rw [e1, e2]
    clear h hf
    go_enter Try.func73, Try.ntmps73
    go_wp2
    go_returns
    exact ⟨rfl, bAlloc (bAlloc (Below.refl _ _) _) _⟩
  by_cases c2 : i ≥ (n : Int)
  · have e1 : atC n E i = cel0 := by unfold atC; rw [if_neg (by omega)]
    have e2 : liveB n E i = false := by unfold liveB; simp; omega
    rw [e1, e2]
    clear h hf
    go_enter Try.func73, Try.ntmps73
    go_wp2
    go_returns
    exact ⟨rfl, bAlloc (bAlloc (Below.refl _ _) _) _⟩
  obtain ⟨k, rfl⟩ : ∃ k : Nat, i = (k : Int) := ⟨i.toNat, by omega⟩
  have hk : k < n := by omega
  have e1 : atC n E (k : Int) = E k := by unfold atC; rw [if_pos (by omega)]; simp
  have e2 : liveB n E (k : Int) = (E k).v := by unfold liveB; simp; omega
  rw [e1, e2]
  obtain ⟨V, hV⟩ : ∃ V, V = (w.alloc (.cells #[.int .i64 0, .int .i64 0, .bool false] 58)).alloc (.cells #[.int .i64 0, .int .i64 0, .bool false] 58) := ⟨_, rfl⟩
  have BV : Hid (Below w.heap.size w V) := by rw [hV]; exact bAlloc (bAlloc (Below.refl _ _) _) _
  obtain ⟨o, off, rfl, ho, p0, p1, p2⟩ := (h.keep BV.out).at hk
  have R : Hid (Box3 V w.heap.size (.int .i64 0) (.int .i64 0) (.bool false) 58) := by rw [hV]; exact (box3_new _ _ _ _ _).alloc _
  have Q : Hid (Box3 V (w.heap.size + 1) (.int .i64 0) (.int .i64 0) (.bool false) 58) := by
    have := box3_new (w.alloc (.cells #[.int .i64 0, .int .i64 0, .bool false] 58)) (.int .i64 0) (.int .i64 0) (.bool false) 58
    show Box3 _ _ _ _ _ _
    rw [hV]; simpa using this
  have fk := hf k hk
  have hoo : o < w.heap.size := by
    obtain ⟨o', off', e, ho', _⟩ := h.at hk
    cases e; exact ho'
  have i1 : (k : Int) < (n : Int) := by omega
  have n1 : ¬ (k : Int) < 0 := by omega
  have n2 : ¬ (k : Int) ≥ (n : Int) := by omega
  have q0 := Q.out.c0
  have q1 := Q.out.c1
  have q2 := Q.out.c2
  have r0 := R.out.c0
  have r1 := R.out.c1
  have r2 := R.out.c2
  have f0 := R.out.free 0
  have f1 := R.out.free 1
  have f2 := R.out.free 2
  clear h hf e1 e2 ho
  generalize E k = c at *
  obtain ⟨f, l, b⟩ := c
  simp only at p0 p1 p2 fk ⊢
  have KP : Hid (∀ W' : World, Win w.heap.size (w.heap.size + 1) V W' → W'.cell? ⟨o, off + k * 3, none⟩ = some (.int .i64 f) ∧ W'.cell? ⟨o, off + k * 3 + 1, none⟩ = some (.int .i64 l) ∧ W'.cell? ⟨o, off + k * 3 + 2, none⟩ = some (.bool b) ∧ W'.cell? ⟨w.heap.size + 1, 0, none⟩ = some (.int .i64 0) ∧ W'.cell? ⟨w.heap.size + 1, 1, none⟩ = some (.int .i64 0) ∧ W'.cell? ⟨w.heap.size + 1, 2, none⟩ = some (.bool false)) := fun W' hw => by
    have hblk := hw.block o (by have := BV.out.size; omega) (.inl hoo)
    have cc : ∀ j, W'.cell? ⟨o, j, none⟩ = V.cell? ⟨o, j, none⟩ := fun j => by simp only [World.cell?, hblk]
    have Q' := Q.out.win hw (.inr (Nat.le_refl _))
    exact ⟨by rw [cc]; exact p0, by rw [cc]; exact p1, by rw [cc]; exact p2, Q'.c0, Q'.c1, Q'.c2⟩
  have SET : Hid (∀ x y z : Value, Win w.heap.size (w.heap.size + 1) V (((V.setCell ⟨w.heap.size, 0, none⟩ x).setCell ⟨w.heap.size, 1, none⟩ y).setCell ⟨w.heap.size, 2, none⟩ z)) := fun x y z => ((win_setCell _ _ _ _).trans (win_setCell _ _ _ _)).trans (win_setCell _ _ _ _)
  cases b with
  | false =>
    obtain ⟨rfl, rfl⟩ : f = 0 ∧ l = 0 := fk.1 rfl
    go_enter Try.func73, Try.ntmps73
    go_wp2
    rw [← hV]
    clear hV
    go_region_held3 (fun w' => w'.cell? ⟨o, off + k * 3, none⟩ = some (.int .i64 0) ∧ w'.cell? ⟨o, off + k * 3 + 1, none⟩ = some (.int .i64 0) ∧ w'.cell? ⟨o, off + k * 3 + 2, none⟩ = some (.bool false) ∧ w'.cell? ⟨w.heap.size + 1, 0, none⟩ = some (.int .i64 0) ∧ w'.cell? ⟨w.heap.size + 1, 1, none⟩ = some (.int .i64 0) ∧ w'.cell? ⟨w.heap.size + 1, 2, none⟩ = some (.bool false))
      (first | exact ⟨p0, p1, p2, q0, q1, q2⟩ | exact KP.out _ (SET.out _ _ _) | exact KP.out _ (win_drew (SET.out _ _ _)))
      (fail)
    go_wp2
    generalize hZ : ((V.setCell ⟨w.heap.size, 0, none⟩ (.int .i64 0)).setCell ⟨w.heap.size, 1, none⟩ (.int .i64 0)).setCell ⟨w.heap.size, 2, none⟩ (.bool false) = wz
    have RZ : Box3 wz w.heap.size (.int .i64 0) (.int .i64 0) (.bool false) 58 := by rw [← hZ]; exact ((R.out.set0 _).set1 _).set2 _
    have WZ : Hid (Win w.heap.size (w.heap.size + 1) V wz) := by rw [← hZ]; exact SET.out _ _ _
    have v0 : wz.drew.cell? ⟨w.heap.size, 0, none⟩ = some (.int .i64 0) := RZ.c0
    have v1 : wz.drew.cell? ⟨w.heap.size, 1, none⟩ = some (.int .i64 0) := RZ.c1
    have v2 : wz.drew.cell? ⟨w.heap.size, 2, none⟩ = some (.bool false) := RZ.c2
    clear hZ
    refine bodyPost_ret (v := .tuple #[.agg #[.int .i64 0, .int .i64 0, .bool false], .bool false]) (by simp [results, Try.results73, go_sem, v0, v1, v2]) rfl ?_
    exact ⟨rfl, BV.out.trans ((win_drew WZ.out).below (Nat.le_refl _) BV.out.size)⟩
  | true =>
    have l0 : ¬ l = 0 := by have := (fk.2 rfl).1; simp at this; omega
    by_cases e0 : f = 0
    · subst e0
      go_enter Try.func73, Try.ntmps73
      go_wp2
      rw [← hV]
      clear hV
      go_region_held3 (fun w' => w'.cell? ⟨o, off + k * 3, none⟩ = some (.int .i64 0) ∧ w'.cell? ⟨o, off + k * 3 + 1, none⟩ = some (.int .i64 l) ∧ w'.cell? ⟨o, off + k * 3 + 2, none⟩ = some (.bool true) ∧ w'.cell? ⟨w.heap.size + 1, 0, none⟩ = some (.int .i64 0) ∧ w'.cell? ⟨w.heap.size + 1, 1, none⟩ = some (.int .i64 0) ∧ w'.cell? ⟨w.heap.size + 1, 2, none⟩ = some (.bool false))
        (first | exact ⟨p0, p1, p2, q0, q1, q2⟩ | exact KP.out _ (SET.out _ _ _) | exact KP.out _ (win_drew (SET.out _ _ _)))
        (fail)
      go_wp2
      generalize hZ : ((V.setCell ⟨w.heap.size, 0, none⟩ (.int .i64 0)).setCell ⟨w.heap.size, 1, none⟩ (.int .i64 l)).setCell ⟨w.heap.size, 2, none⟩ (.bool true) = wz
      have RZ : Box3 wz w.heap.size (.int .i64 0) (.int .i64 l) (.bool true) 58 := by rw [← hZ]; exact ((R.out.set0 _).set1 _).set2 _
      have WZ : Hid (Win w.heap.size (w.heap.size + 1) V wz) := by rw [← hZ]; exact SET.out _ _ _
      have v0 : wz.drew.cell? ⟨w.heap.size, 0, none⟩ = some (.int .i64 0) := RZ.c0
      have v1 : wz.drew.cell? ⟨w.heap.size, 1, none⟩ = some (.int .i64 l) := RZ.c1
      have v2 : wz.drew.cell? ⟨w.heap.size, 2, none⟩ = some (.bool true) := RZ.c2
      clear hZ
      refine bodyPost_ret (v := .tuple #[.agg #[.int .i64 0, .int .i64 l, .bool true], .bool true]) (by simp [results, Try.results73, go_sem, v0, v1, v2]) rfl ?_
      exact ⟨rfl, BV.out.trans ((win_drew WZ.out).below (Nat.le_refl _) BV.out.size)⟩
    · skip
      go_enter Try.func73, Try.ntmps73
      go_wp2
      rw [← hV]
      clear hV
      go_region_held3 (fun w' => w'.cell? ⟨o, off + k * 3, none⟩ = some (.int .i64 f) ∧ w'.cell? ⟨o, off + k * 3 + 1, none⟩ = some (.int .i64 l) ∧ w'.cell? ⟨o, off + k * 3 + 2, none⟩ = some (.bool true) ∧ w'.cell? ⟨w.heap.size + 1, 0, none⟩ = some (.int .i64 0) ∧ w'.cell? ⟨w.heap.size + 1, 1, none⟩ = some (.int .i64 0) ∧ w'.cell? ⟨w.heap.size + 1, 2, none⟩ = some (.bool false))
        (first | exact ⟨p0, p1, p2, q0, q1, q2⟩ | exact KP.out _ (SET.out _ _ _) | exact KP.out _ (win_drew (SET.out _ _ _)))
        (fail)
      go_wp2
      generalize hZ : ((V.setCell ⟨w.heap.size, 0, none⟩ (.int .i64 f)).setCell ⟨w.heap.size, 1, none⟩ (.int .i64 l)).setCell ⟨w.heap.size, 2, none⟩ (.bool true) = wz
      have RZ : Box3 wz w.heap.size (.int .i64 f) (.int .i64 l) (.bool true) 58 := by rw [← hZ]; exact ((R.out.set0 _).set1 _).set2 _
      have WZ : Hid (Win w.heap.size (w.heap.size + 1) V wz) := by rw [← hZ]; exact SET.out _ _ _
      have v0 : wz.drew.cell? ⟨w.heap.size, 0, none⟩ = some (.int .i64 f) := RZ.c0
      have v1 : wz.drew.cell? ⟨w.heap.size, 1, none⟩ = some (.int .i64 l) := RZ.c1
      have v2 : wz.drew.cell? ⟨w.heap.size, 2, none⟩ = some (.bool true) := RZ.c2
      clear hZ
      refine bodyPost_ret (v := .tuple #[.agg #[.int .i64 f, .int .i64 l, .bool true], .bool true]) (by simp [results, Try.results73, go_sem, v0, v1, v2]) rfl ?_
      exact ⟨rfl, BV.out.trans ((win_drew WZ.out).below (Nat.le_refl _) BV.out.size)⟩
set_option maxRecDepth 20000 in
set_option maxHeartbeats 8000000 in
/-- A cell is set. -/
theorem with_impl {w : World} {g n cc k : Nat} {E : Nat → Cel} (h : CBlk w g n E) (hk : k < n) (c : Cel) (hn : n ≤ 1048576) :
    Calls Try.prog 72 #[.slice (some ⟨g, 0, none⟩) n cc, .int .i64 (k : Int), .agg #[.int .i64 c.f, .int .i64 c.l, .bool c.v]] w fun e w' => e = .returned (.slice (some ⟨g, 0, none⟩) n cc) ∧ CBlk w' g n (up E k c) ∧ Win g (g + 1) w w' := by
  obtain ⟨V, hV⟩ : ∃ V, V = w.alloc (.cells #[.int .i64 c.f, .int .i64 c.l, .bool c.v] 58) := ⟨_, rfl⟩
  have BV : Below w.heap.size w V := by rw [hV]; exact bAlloc (Below.refl _ _) _
  have HB : Hid (CBlk V g n E) := h.keep BV
  have T3 : Hid (CBlk (((V.setCell ⟨g, k * 3, none⟩ (.int .i64 c.f)).setCell ⟨g, k * 3 + 1, none⟩ (.int .i64 c.l)).setCell ⟨g, k * 3 + 2, none⟩ (.bool c.v)) g n (up E k c)) := HB.out.set hk c
  have W3 : Hid (Win g (g + 1) w (((V.setCell ⟨g, k * 3, none⟩ (.int .i64 c.f)).setCell ⟨g, k * 3 + 1, none⟩ (.int .i64 c.l)).setCell ⟨g, k * 3 + 2, none⟩ (.bool c.v))) := (Below.win BV).trans (set3_win _ _ _ _ _ _)
  obtain ⟨c0, c1, c2, f0, f1, f2⟩ := HB.out.cells hk
  have hne : ¬ ((k : Int) = (n : Int)) := by omega
  have hi : (k : Int) < (n : Int) := by omega
  rw [hV] at c0 c1 c2 f0 f1 f2 T3 W3
  clear hV BV h HB
  obtain ⟨f, l, b⟩ := c
  simp only at T3 W3 ⊢
  go_enter Try.func72, Try.ntmps72
  go_wp2
  go_ret
  exact ⟨rfl, T3.out, W3.out⟩
end Go.Proofs.Ytfmfppndcbmohaa
