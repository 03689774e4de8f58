/-
  Walks: the words of the codes are made once; the program's CodeText.
-/
import Derived.Test.YtnclnnkkkofjaaaDoorOnceT
import Derived.Deep.RegionHeld3
import Derived.Shelf.Abstract
namespace Go.Proofs.YtnclnnkkkofjaaaDoor
open Go.RowKit
set_option linter.unusedVariables false
set_option linter.unusedSimpArgs false
/-- The glossary in its box: whether its words are made, the lock, the words. -/
def GlB (w : World) (b : Nat) (d s : Int) (v : Value) : Prop := w.heap[b]? = some (.cells #[.int .u32 d, .int .i32 s, .int .u32 0, v] 43 (0, 0))
theorem GlB.c0 {w : World} {b : Nat} {d s : Int} {v : Value} (h : GlB w b d s v) : w.cell? ⟨b, 0, none⟩ = some (.int .u32 d) := by simp [World.cell?, show w.heap[b]? = _ from h]
theorem GlB.c1 {w : World} {b : Nat} {d s : Int} {v : Value} (h : GlB w b d s v) : w.cell? ⟨b, 1, none⟩ = some (.int .i32 s) := by simp [World.cell?, show w.heap[b]? = _ from h]
theorem GlB.c3 {w : World} {b : Nat} {d s : Int} {v : Value} (h : GlB w b d s v) : w.cell? ⟨b, 3, none⟩ = some v := by simp [World.cell?, show w.heap[b]? = _ from h]
theorem GlB.free {w : World} {b : Nat} {d s : Int} {v : Value} (h : GlB w b d s v) (k : Nat) : w.frozen? ⟨b, k, none⟩ = false := by simp [World.frozen?, show w.heap[b]? = _ from h]
theorem GlB.keep {w w' : World} {b : Nat} {d s : Int} {v : Value} (h : GlB w b d s v) (hb : Below w.heap.size w w') : GlB w' b d s v := by
  unfold GlB at *
  rw [hb.block b (Array.getElem?_eq_some_iff.1 h).1]; exact h
theorem GlB.set0 {w : World} {b : Nat} {d s : Int} {v : Value} (h : GlB w b d s v) (d' : Int) : GlB (w.setCell ⟨b, 0, none⟩ (.int .u32 d')) b d' s v := by
  have := heap_setCell_same w b 0 _ _ (.int .u32 d') h
  simpa [GlB] using this
theorem GlB.set1 {w : World} {b : Nat} {d s : Int} {v : Value} (h : GlB w b d s v) (s' : Int) : GlB (w.setCell ⟨b, 1, none⟩ (.int .i32 s')) b d s' v := by
  have := heap_setCell_same w b 1 _ _ (.int .i32 s') h
  simpa [GlB] using this
theorem GlB.set3 {w : World} {b : Nat} {d s : Int} {v : Value} (h : GlB w b d s v) (v' : Value) : GlB (w.setCell ⟨b, 3, none⟩ v') b d s v' := by
  have := heap_setCell_same w b 3 _ _ v' h
  simpa [GlB] using this
theorem belowSet {B g : Nat} {a w : World} (h : Below B a w) (hg : B ≤ g) (o : Nat) (u : Value) : Below B a (w.setCell ⟨g, o, none⟩ u) := h.trans ⟨rfl, rfl, rfl, by simp [World.setCell], fun k hk => heap_setCell_other w ⟨g, o, none⟩ k u (by show k ≠ g; omega)⟩
set_option maxRecDepth 100000 in
set_option maxHeartbeats 1600000 in
theorem slow_words {b v : Nat} (hbv : ¬ b = v) {n : Nat} {w : World} (hp : w.cell? ⟨v, 0, none⟩ = some (.pointer (some ⟨b, 0, none⟩))) (hb : GlB w b 0 0 (.slice none 0 0)) (hlt : b < w.heap.size) (hn : n ≤ b) (ht : TabN n w) :
    Calls Tryd.prog 18 #[.pointer (some ⟨b, 0, none⟩), .func (.func 14) #[] #[.pointer (some ⟨v, 0, none⟩)]] w fun e w' => e = .returned (.tuple #[]) ∧
      ∃ k, w.heap.size ≤ k ∧ GlB w' b 1 0 (.slice (some ⟨k, 0, none⟩) 11 11) ∧ w'.heap[k]? = some (.cells (wordsL.map Value.string).toArray 9 (0, 0)) ∧ Below n w w' ∧ w'.cell? ⟨v, 0, none⟩ = some (.pointer (some ⟨b, 0, none⟩)) := by
  have h1 := hb.set1 1
  have hl := run_call_load (P := Tryd.prog) Tryd.func21 (by kernel_rfl) (by kernel_rfl) (by kernel_rfl) .u32 (by kernel_rfl) h1.c0
  have c0 := hb.c0
  have c1 := hb.c1
  have c3 := hb.c3
  have f0 := hb.free 0
  have f1 := hb.free 1
  have f3 := hb.free 3
  have hnot : ∀ (x : Bool) (w : World), (Op.unary .not (.bool x)).run Tryd.prog w = .ok (.bool (!x)) w := fun _ _ => rfl
  go_enter_defers Tryd.func18, Tryd.ntmps18
  go_wp2_with (go_at_call 22; refine (lock_free ⟨b, 1, none⟩ _ c1 f1).mono ?_; rintro e w' ⟨rfl, rfl⟩)
  go_wp2
  have HT : Hid (TabN n w) := ht
  have W1 : Hid (Below n w (w.setCell ⟨b, 1, none⟩ (.int .i32 1))) := belowSet (Below.refl _ _) hn _ _
  have H1 : Hid (GlB (w.setCell ⟨b, 1, none⟩ (.int .i32 1)) b 0 1 (.slice none 0 0)) := h1
  have HS1 : Hid ((w.setCell ⟨b, 1, none⟩ (.int .i32 1)).heap.size = w.heap.size) := by show _ = _; simp [World.setCell]
  have p1 : (w.setCell ⟨b, 1, none⟩ (.int .i32 1)).cell? ⟨v, 0, none⟩ = some (.pointer (some ⟨b, 0, none⟩)) := by rw [World.cell?_setCell_other _ _ _ _ (by simp; try omega)]; exact hp
  have T1 : Hid (TabN n (w.setCell ⟨b, 1, none⟩ (.int .i32 1))) := HT.out.on W1.out
  clear c0 c1 c3 f0 f1 f3 hl ht hp hb h1
  generalize w.setCell ⟨b, 1, none⟩ (.int .i32 1) = w1 at *
  have d3 : ∀ o : Obj, (w1.alloc o).cell? ⟨b, 3, none⟩ = some (.slice none 0 0) := fun o => (H1.out.keep (bAlloc (Below.refl _ _) o)).c3
  have e3 : ∀ o : Obj, (w1.alloc o).frozen? ⟨b, 3, none⟩ = false := fun o => (H1.out.keep (bAlloc (Below.refl _ _) o)).free 3
  have nv := World.new_ne w1 ⟨v, 0, none⟩ p1
  go_region_held3 (fun w' => w'.cell? ⟨v, 0, none⟩ = some (.pointer (some ⟨b, 0, none⟩)))
    (first | exact p1 | go_keep)
    ((go_at_call 15; refine (fields_words (by first | exact T1.out | exact T1.out.on ((Below.refl _ _).drew))).mono ?_; rintro r wx ⟨rfl, rfl⟩))
  go_wp2
  rename_i hHeld
  have G3 : Hid (GlB ((w1.alloc (.cells (wordsL.map Value.string).toArray 9)).setCell ⟨b, 3, none⟩ (.slice (some ⟨w1.heap.size, 0, none⟩) 11 11)).drew b 0 1 (.slice (some ⟨w1.heap.size, 0, none⟩) 11 11)) := (H1.out.keep (bAlloc (Below.refl _ _) _)).set3 _
  have hwd : ((w1.alloc (.cells (wordsL.map Value.string).toArray 9)).setCell ⟨b, 3, none⟩ (.slice (some ⟨w1.heap.size, 0, none⟩) 11 11)).drew.heap[w1.heap.size]? = some (.cells (wordsL.map Value.string).toArray 9 (0, 0)) := by
    have hb1 : b < w1.heap.size := by have := HS1.out; omega
    rw [show ((w1.alloc (.cells (wordsL.map Value.string).toArray 9)).setCell ⟨b, 3, none⟩ (.slice (some ⟨w1.heap.size, 0, none⟩) 11 11)).drew.heap[w1.heap.size]? = (w1.alloc (.cells (wordsL.map Value.string).toArray 9)).heap[w1.heap.size]? from heap_setCell_other _ _ _ _ (by show _ ≠ b; omega)]
    exact heap_alloc_new w1 _
  have B3 : Hid (Below n w ((w1.alloc (.cells (wordsL.map Value.string).toArray 9)).setCell ⟨b, 3, none⟩ (.slice (some ⟨w1.heap.size, 0, none⟩) 11 11)).drew) := W1.out.trans ((belowSet ((bAlloc (Below.refl _ _) _).mono (by have := HS1.out; omega)) hn _ _).drew)
  clear d3 e3 nv p1
  generalize ((w1.alloc (.cells (wordsL.map Value.string).toArray 9)).setCell ⟨b, 3, none⟩ (.slice (some ⟨w1.heap.size, 0, none⟩) 11 11)).drew = w3 at *
  have hs1 := HS1.out
  generalize hk1 : w1.heap.size = k1 at *
  refine leaves_cons (f := 24) (args := #[.pointer (some ⟨b, 0, none⟩), .bool true]) (by simp) (by simp [go_sem]) ?_
  refine (store_deferred ⟨b, 0, none⟩ (.int .u32 0) .returning w3 G3.out.c0 (G3.out.free 0)).mono ?_
  rintro e u' w'' ⟨rfl, rfl, rfl⟩
  have G4 : GlB (w3.drew.setCell ⟨b, 0, none⟩ (.int .u32 1)) b 1 1 (.slice (some ⟨k1, 0, none⟩) 11 11) := GlB.set0 (w := w3.drew) G3.out 1
  have B4 : Below n w (w3.drew.setCell ⟨b, 0, none⟩ (.int .u32 1)) := B3.out.drew.trans (belowSet (Below.refl _ _) hn _ _)
  have hwd4 : (w3.drew.setCell ⟨b, 0, none⟩ (.int .u32 1)).heap[k1]? = some (.cells (wordsL.map Value.string).toArray 9 (0, 0)) := (heap_setCell_other w3.drew ⟨b, 0, none⟩ k1 _ (by show k1 ≠ b; omega)).trans hwd
  refine leaves_cons (f := 23) (args := #[.pointer (some ⟨b, 1, none⟩)]) (by simp [settle]) (by simp [go_sem]) ?_
  refine (unlock_deferred ⟨b, 1, none⟩ _ _ G4.c1 (G4.free 1)).mono ?_
  rintro e u' w'' ⟨rfl, rfl, rfl⟩
  have G5 := G4.set1 0
  have hwd5 := (heap_setCell_other (w3.drew.setCell ⟨b, 0, none⟩ (.int .u32 1)) ⟨b, 1, none⟩ k1 (.int .i32 0) (by show k1 ≠ b; omega)).trans hwd4
  have B5 := B4.trans (belowSet (Below.refl _ _) hn 1 (.int .i32 0))
  show ∃ v, _ ∧ _
  have hne : ∀ o : Nat, (⟨b, o, none⟩ : Addr) ≠ ⟨v, 0, none⟩ := fun o h => hbv (congrArg Addr.block h)
  exact ⟨_, results_none rfl _ _ _, rfl, k1, by omega, G5, hwd5, B5, ((World.cell?_setCell_other _ ⟨b, 1, none⟩ ⟨v, 0, none⟩ _ (by intro h; first | exact hne _ h | exact hne _ h.symm)).trans ((World.cell?_setCell_other _ ⟨b, 0, none⟩ ⟨v, 0, none⟩ _ (by intro h; first | exact hne _ h | exact hne _ h.symm)).trans ((World.cell?_drew _ _).trans hHeld)))⟩
end Go.Proofs.YtnclnnkkkofjaaaDoor
