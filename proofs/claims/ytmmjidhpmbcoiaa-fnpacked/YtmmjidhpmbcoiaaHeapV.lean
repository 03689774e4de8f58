/-
  Walks: the program's wordsOf.
-/
import Derived.Test.YtmmjidhpmbcoiaaHeapT
import Derived.Test.YtmmjidhpmbcoiaaHeapI1
namespace Go.Proofs.Ytmmjidhpmbcoiaa
open Go.RowKit
set_option linter.unusedVariables false
set_option linter.unusedSimpArgs false
set_option maxRecDepth 20000 in
set_option maxHeartbeats 8000000 in
/-- The words of a cell. -/
theorem wordsOf_impl {w : World} {v : Value} {W : List Int} {t : Int} {n : Nat} {E : Nat → Cel} (h : HI w v W t n E) {F L : Nat} (b : Bool) (hFL : F + L ≤ W.length) (hW : W.length ≤ 1048576) :
    Calls Try.prog 97 #[v, .agg #[.int .i64 (F : Int), .int .i64 (L : Int), .bool b]] w fun e w' => ∃ a' c', e = .returned (.slice a' L c') ∧ L ≤ c' ∧ Ints w' a' ((W.drop F).take L) ∧ Below w.heap.size w w' := by
  obtain ⟨wa, wc, ca, cc, rfl, h1, h2, h3, h4⟩ := h
  obtain ⟨a1, c1, hs1, hc1, i1⟩ := ints_mid (F := F) (L := L) h1 h2 hFL
  have I1 : Hid (Ints w a1 ((W.drop F).take L)) := i1
  clear h1 h2 h3 h4 i1
  go_enter Try.func97, Try.ntmps97
  go_wp2
  generalize hV : (w.alloc (.cells #[.slice wa W.length wc, .int .i64 t, .slice ca n cc] 28)).alloc (.cells #[.int .i64 (F : Int), .int .i64 (L : Int), .bool b] 47) = V
  have BV : Hid (Below w.heap.size w V) := by rw [← hV]; exact bAlloc (bAlloc (Below.refl _ _) _) _
  have X : Hid (Box3 V w.heap.size (.slice wa W.length wc) (.int .i64 t) (.slice ca n cc) 28) := by rw [← hV]; exact (box3_new _ _ _ _ _).alloc _
  have Y : Hid (Box3 V (w.heap.size + 1) (.int .i64 (F : Int)) (.int .i64 (L : Int)) (.bool b) 47) := by
    have := box3_new (w.alloc (.cells #[.slice wa W.length wc, .int .i64 t, .slice ca n cc] 28)) (.int .i64 (F : Int)) (.int .i64 (L : Int)) (.bool b) 47
    show Box3 _ _ _ _ _ _
    rw [← hV]; simpa using this
  clear hV
  have KB : Hid (∀ W' : World, Below V.heap.size V W' → W'.cell? ⟨w.heap.size, 0, none⟩ = some (.slice wa W.length wc) ∧ W'.cell? ⟨w.heap.size + 1, 0, none⟩ = some (.int .i64 (F : Int)) ∧ W'.cell? ⟨w.heap.size + 1, 1, none⟩ = some (.int .i64 (L : Int)) ∧ W'.cell? ⟨w.heap.size + 1, 2, none⟩ = some (.bool b)) := fun W' hb => ⟨(X.out.keep hb).c0, (Y.out.keep hb).c0, (Y.out.keep hb).c1, (Y.out.keep hb).c2⟩
  have BH : Hid (∀ W', Calls Try.prog 50 #[.agg #[.int .i64 (F : Int), .int .i64 (L : Int), .bool b]] W' fun e w' => e = .returned (.int .i64 ((F : Int) + (L : Int))) ∧ Below W'.heap.size W' w') := fun W' => behind_impl _ _ _ W' (by unfold in64; omega)
  have u0 := X.out.c0
  have v0 := Y.out.c0
  have v1 := Y.out.c1
  have v2 := Y.out.c2
  go_region_held3 (fun w' => w'.cell? ⟨w.heap.size, 0, none⟩ = some (.slice wa W.length wc) ∧ w'.cell? ⟨w.heap.size + 1, 0, none⟩ = some (.int .i64 (F : Int)) ∧ w'.cell? ⟨w.heap.size + 1, 1, none⟩ = some (.int .i64 (L : Int)) ∧ w'.cell? ⟨w.heap.size + 1, 2, none⟩ = some (.bool b))
    ((refine KB.out _ ?_; (repeat first | exact BX.out | exact Below.refl _ _ | refine bAlloc ?_ _ | refine Below.drew ?_); done))
    ((go_at_call 50; refine (BH.out _).mono ?_; rintro r wx ⟨rfl, hb⟩; have BX : Hid (Below V.heap.size V wx) := bTrans (by repeat first | exact Below.refl _ _ | refine bAlloc ?_ _ | refine Below.drew ?_) hb; clear hb))
  all_goals
    go_wp2
    go_ret
    exact ⟨_, _, rfl, hc1, I1.out.keep (bTrans BV.out BX.out), bTrans BV.out BX.out⟩
set_option maxRecDepth 20000 in
set_option maxHeartbeats 8000000 in
/-- The words of a cell, where the cut is known. -/
theorem wordsOf_run {w : World} {v : Value} {W : List Int} {t : Int} {n : Nat} {E : Nat → Cel} (h : HI w v W t n E) {F L : Nat} (b : Bool) (hFL : F + L ≤ W.length) (hW : W.length ≤ 1048576) {a1 : Option Addr} {c1 : Nat} (hs1 : ∀ wa wc ca cc, v = .agg #[.slice wa W.length wc, .int .i64 t, .slice ca n cc] → ∀ W', (Instr.slice 25 (.slice wa W.length wc) (some (.int .i64 (F : Int))) (some (.int .i64 ((F : Int) + (L : Int)))) none).run Try.prog W' = .ok (.slice a1 L c1) W') :
    Calls Try.prog 97 #[v, .agg #[.int .i64 (F : Int), .int .i64 (L : Int), .bool b]] w fun e w' => e = .returned (.slice a1 L c1) ∧ Below w.heap.size w w' := by
  obtain ⟨wa, wc, ca, cc, rfl, h1, h2, h3, h4⟩ := h
  have hs1 := hs1 _ _ _ _ rfl
  clear h1 h2 h3 h4
  go_enter Try.func97, Try.ntmps97
  go_wp2
  generalize hV : (w.alloc (.cells #[.slice wa W.length wc, .int .i64 t, .slice ca n cc] 28)).alloc (.cells #[.int .i64 (F : Int), .int .i64 (L : Int), .bool b] 47) = V
  have BV : Hid (Below w.heap.size w V) := by rw [← hV]; exact bAlloc (bAlloc (Below.refl _ _) _) _
  have X : Hid (Box3 V w.heap.size (.slice wa W.length wc) (.int .i64 t) (.slice ca n cc) 28) := by rw [← hV]; exact (box3_new _ _ _ _ _).alloc _
  have Y : Hid (Box3 V (w.heap.size + 1) (.int .i64 (F : Int)) (.int .i64 (L : Int)) (.bool b) 47) := by
    have := box3_new (w.alloc (.cells #[.slice wa W.length wc, .int .i64 t, .slice ca n cc] 28)) (.int .i64 (F : Int)) (.int .i64 (L : Int)) (.bool b) 47
    show Box3 _ _ _ _ _ _
    rw [← hV]; simpa using this
  clear hV
  have KB : Hid (∀ W' : World, Below V.heap.size V W' → W'.cell? ⟨w.heap.size, 0, none⟩ = some (.slice wa W.length wc) ∧ W'.cell? ⟨w.heap.size + 1, 0, none⟩ = some (.int .i64 (F : Int)) ∧ W'.cell? ⟨w.heap.size + 1, 1, none⟩ = some (.int .i64 (L : Int)) ∧ W'.cell? ⟨w.heap.size + 1, 2, none⟩ = some (.bool b)) := fun W' hb => ⟨(X.out.keep hb).c0, (Y.out.keep hb).c0, (Y.out.keep hb).c1, (Y.out.keep hb).c2⟩
  have BH : Hid (∀ W', Calls Try.prog 50 #[.agg #[.int .i64 (F : Int), .int .i64 (L : Int), .bool b]] W' fun e w' => e = .returned (.int .i64 ((F : Int) + (L : Int))) ∧ Below W'.heap.size W' w') := fun W' => behind_impl _ _ _ W' (by unfold in64; omega)
  have u0 := X.out.c0
  have v0 := Y.out.c0
  have v1 := Y.out.c1
  have v2 := Y.out.c2
  go_region_held3 (fun w' => w'.cell? ⟨w.heap.size, 0, none⟩ = some (.slice wa W.length wc) ∧ w'.cell? ⟨w.heap.size + 1, 0, none⟩ = some (.int .i64 (F : Int)) ∧ w'.cell? ⟨w.heap.size + 1, 1, none⟩ = some (.int .i64 (L : Int)) ∧ w'.cell? ⟨w.heap.size + 1, 2, none⟩ = some (.bool b))
    ((refine KB.out _ ?_; (repeat first | exact BX.out | exact Below.refl _ _ | refine bAlloc ?_ _ | refine Below.drew ?_); done))
    ((go_at_call 50; refine (BH.out _).mono ?_; rintro r wx ⟨rfl, hb⟩; have BX : Hid (Below V.heap.size V wx) := bTrans (by repeat first | exact Below.refl _ _ | refine bAlloc ?_ _ | refine Below.drew ?_) hb; clear hb))
  all_goals
    go_wp2
    go_ret
    exact ⟨rfl, bTrans BV.out BX.out⟩
end Go.Proofs.Ytmmjidhpmbcoiaa
