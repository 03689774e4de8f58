/-
  Walks: the specification's l9Kind, l9Sign and l9Fun.
-/
import Derived.Test.YtnebjnglcfebeaaDoorParQ
import Derived.Test.YtnebjnglcfebeaaDoorFunOk
import Derived.Deep.RegionHeld3
namespace Go.Proofs.YtnebjnglcfebeaaDoor
open Go.RowKit
set_option linter.unusedVariables false
set_option linter.unusedSimpArgs false
set_option maxRecDepth 20000 in
set_option maxHeartbeats 4000000 in
/-- The kind of a token ahead. -/
theorem kind_spec {w : World} {g n c p : Nat} {a : Option Addr} {v : Value} {T : Nat → Spn} (hc : Cur w g (.slice a n c) p v) (ht : SsA w a n T) (j : Nat) (hn : n ≤ 1048576) (hp : p ≤ 1048576) (hj : j ≤ 10) :
    Calls Tryd.prog 34 #[.pointer (some ⟨g, 0, none⟩), .int .i64 (j : Int)] w fun e w' => e = .returned (.int .i64 (tkK n T (p + j))) ∧ Below w.heap.size w w' := by
  have c0 : w.cell? ⟨g, 0, none⟩ = some (.slice a n c) := cell_at hc rfl
  have c1 : w.cell? ⟨g, 1, none⟩ = some (.int .i64 (p : Int)) := cell_at hc rfl
  have hg := lt_of_heapA hc
  have CK : Hid (∀ W, Below w.heap.size w W → W.cell? ⟨g, 0, none⟩ = some (.slice a n c) ∧ W.cell? ⟨g, 1, none⟩ = some (.int .i64 (p : Int))) := fun W h => ⟨(h.cell (p := ⟨g, 0, none⟩) hg).trans c0, (h.cell (p := ⟨g, 1, none⟩) hg).trans c1⟩
  have wj : IntKind.i64.wrap ((p : Int) + (j : Int)) = (p : Int) + (j : Int) := by rw [IntKind.wrap_i64]; omega
  clear hc
  by_cases hlt : p + j < n
  · rw [tkK_at hlt]
    obtain ⟨o, off, rfl, ho, q1, q2⟩ := ht.at hlt
    have CT : Hid (∀ W, Below w.heap.size w W → W.cell? ⟨o, off + (p + j) * 2, none⟩ = some (.int .i64 (T (p + j)).f)) := fun W h => (h.cell (p := ⟨o, off + (p + j) * 2, none⟩) ho).trans q1
    have i1 : ((n : Int) ≤ (p : Int) + (j : Int)) = False := by simp; omega
    have i2 : decide ((n : Int) ≤ (p : Int) + (j : Int)) = false := by simp; omega
    have i3 : (0 : Int) ≤ (p : Int) + (j : Int) := by omega
    have i4 : (p : Int) + (j : Int) < (n : Int) := by omega
    have i5 : ((p : Int) + (j : Int)).toNat = p + j := by omega
    generalize (T (p + j)).f = z at *
    clear ht q2
    go_enter Tryd.func34, Tryd.ntmps34
    go_wp2_with fail
    go_region_held3 (fun w' => w'.cell? ⟨g, 0, none⟩ = some (.slice (some ⟨o, off, none⟩) n c) ∧ w'.cell? ⟨g, 1, none⟩ = some (.int .i64 (p : Int)))
      ((refine CK.out _ ?_; first | with_reducible exact Below.refl _ _ | with_reducible exact (Below.refl _ _).drew))
      (fail)
    all_goals
      go_wp2_with fail
      go_region_held3 (fun w' => w'.cell? ⟨g, 0, none⟩ = some (.slice (some ⟨o, off, none⟩) n c) ∧ w'.cell? ⟨g, 1, none⟩ = some (.int .i64 (p : Int)) ∧ w'.cell? ⟨o, off + (p + j) * 2, none⟩ = some (.int .i64 z))
        ((refine ⟨(CK.out _ ?_).1, (CK.out _ ?_).2, CT.out _ ?_⟩ <;> (repeat first | with_reducible exact Below.refl _ _ | refine Below.drew ?_)))
        (fail)
      all_goals
        go_wp2
        go_ret
        exact ⟨rfl, (by repeat first | exact Below.refl _ _ | refine Below.drew ?_)⟩
  · rw [tkK_out (by omega)]
    have i1 : ((n : Int) ≤ (p : Int) + (j : Int)) = True := by simp; omega
    have i2 : decide ((n : Int) ≤ (p : Int) + (j : Int)) = true := by simp; omega
    clear ht
    go_enter Tryd.func34, Tryd.ntmps34
    go_wp2_with fail
    go_region_held3 (fun w' => w'.cell? ⟨g, 0, none⟩ = some (.slice a n c) ∧ w'.cell? ⟨g, 1, none⟩ = some (.int .i64 (p : Int)))
      ((refine CK.out _ ?_; first | with_reducible exact Below.refl _ _ | with_reducible exact (Below.refl _ _).drew))
      (fail)
    all_goals
      go_wp2
      go_ret
      exact ⟨rfl, (by repeat first | exact Below.refl _ _ | refine Below.drew ?_)⟩
set_option maxRecDepth 20000 in
set_option maxHeartbeats 4000000 in
/-- The sign ahead. -/
theorem sign9_spec {w : World} {g n c p : Nat} {a : Option Addr} {v : Value} {T : Nat → Spn} (hc : Cur w g (.slice a n c) p v) (ht : SsA w a n T) (j : Nat) (hn : n ≤ 1048576) (hp : p ≤ 1048576) (hj : j ≤ 10) :
    Calls Tryd.prog 55 #[.pointer (some ⟨g, 0, none⟩), .int .i64 (j : Int)] w fun e w' => e = .returned (.int .i64 (sgP n T (p + j))) ∧ Below w.heap.size w w' := by
  have K0 : Hid (Calls Tryd.prog 34 #[.pointer (some ⟨g, 0, none⟩), .int .i64 (j : Int)] w fun e w' => e = .returned (.int .i64 (tkK n T (p + j))) ∧ Below w.heap.size w w') := kind_spec hc ht j hn hp hj
  by_cases h3 : tkK n T (p + j) = 3
  · have hlt := tkK_in (n := n) (T := T) (p := p + j) (by omega)
    have c0 : w.cell? ⟨g, 0, none⟩ = some (.slice a n c) := cell_at hc rfl
    have c1 : w.cell? ⟨g, 1, none⟩ = some (.int .i64 (p : Int)) := cell_at hc rfl
    have hg := lt_of_heapA hc
    have CK : Hid (∀ W, Below w.heap.size w W → W.cell? ⟨g, 0, none⟩ = some (.slice a n c) ∧ W.cell? ⟨g, 1, none⟩ = some (.int .i64 (p : Int))) := fun W h => ⟨(h.cell (p := ⟨g, 0, none⟩) hg).trans c0, (h.cell (p := ⟨g, 1, none⟩) hg).trans c1⟩
    have wj : IntKind.i64.wrap ((p : Int) + (j : Int)) = (p : Int) + (j : Int) := by rw [IntKind.wrap_i64]; omega
    have es : sgP n T (p + j) = (T (p + j)).t := by unfold sgP; rw [if_pos h3, tkN_at hlt]
    obtain ⟨o, off, rfl, ho, q1, q2⟩ := ht.at hlt
    have CT : Hid (∀ W, Below w.heap.size w W → W.cell? ⟨o, off + (p + j) * 2 + 1, none⟩ = some (.int .i64 (T (p + j)).t)) := fun W h => (h.cell (p := ⟨o, off + (p + j) * 2 + 1, none⟩) ho).trans q2
    have i3 : (0 : Int) ≤ (p : Int) + (j : Int) := by omega
    have i4 : (p : Int) + (j : Int) < (n : Int) := by omega
    have i5 : ((p : Int) + (j : Int)).toNat = p + j := by omega
    rw [es]
    rw [h3] at K0
    generalize (T (p + j)).t = z at *
    clear ht q1 q2 c0 c1 hc es h3
    go_enter Tryd.func55, Tryd.ntmps55
    go_wp2_with fail
    refine K0.out.mono ?_
    rintro r w1 ⟨rfl, hb⟩
    have B1 : Hid (Below w.heap.size w w1) := hb
    clear hb K0
    go_wp2_with fail
    go_region_held3 (fun w' => w'.cell? ⟨g, 0, none⟩ = some (.slice (some ⟨o, off, none⟩) n c) ∧ w'.cell? ⟨g, 1, none⟩ = some (.int .i64 (p : Int)) ∧ w'.cell? ⟨o, off + (p + j) * 2 + 1, none⟩ = some (.int .i64 z))
      ((refine ⟨(CK.out _ ?_).1, (CK.out _ ?_).2, CT.out _ ?_⟩ <;> (first | with_reducible exact B1.out | with_reducible exact B1.out.drew)))
      (fail)
    all_goals
      go_wp2
      go_ret
      exact ⟨rfl, (by first | exact B1.out | exact B1.out.drew)⟩
  · have es : sgP n T (p + j) = 0 := if_neg h3
    have e3 : (tkK n T (p + j) != 3) = true := by simpa using h3
    rw [es]
    generalize tkK n T (p + j) = z at *
    clear ht hc es h3
    go_enter Tryd.func55, Tryd.ntmps55
    go_wp2_with fail
    refine K0.out.mono ?_
    rintro r w1 ⟨rfl, hb⟩
    have B1 : Hid (Below w.heap.size w w1) := hb
    clear hb K0
    go_wp2
    go_ret
    exact ⟨rfl, B1.out⟩
theorem fun_loaded {w : World} {g : Nat} {x y z : Value} (h : w.heap[g]? = some (.cells #[x, y, z] 64 (0, 0))) : (loadVar 64 ⟨g, 0, none⟩).run Tryd.prog w = .ok (.agg #[x, y, z]) w := by
  have c0 : w.cell? ⟨g, 0, none⟩ = some x := cell_at h rfl
  have c1 : w.cell? ⟨g, 1, none⟩ = some y := cell_at h rfl
  have c2 : w.cell? ⟨g, 2, none⟩ = some z := cell_at h rfl
  simp [loadVar, go_sem, c0, c1, c2]
theorem fun_stored {w : World} {g : Nat} {x y z x' y' z' : Value} {t : TypeId} (h : w.heap[g]? = some (.cells #[x, y, z] t (0, 0))) : (((w.setCell ⟨g, 0, none⟩ x').setCell ⟨g, 1, none⟩ y').setCell ⟨g, 2, none⟩ z').heap[g]? = some (.cells #[x', y', z'] t (0, 0)) := by
  have h1 := heap_setCell_same w g 0 _ _ x' h
  have h2 := heap_setCell_same _ g 1 _ _ y' h1
  have h3 := heap_setCell_same _ g 2 _ _ z' h2
  simpa using h3
theorem results_fun_tmp {fn : Func} {p u : Tmp} (h : fn.results = #[.cell p 64, .tmp u]) (tmps : Array Value) (w : World) (g : Nat) (x y z : Value) (hp : tmps.getD p undef = .pointer (some ⟨g, 0, none⟩))
    (hg : w.heap[g]? = some (.cells #[x, y, z] 64 (0, 0))) : (results fn tmps).run Tryd.prog w = .ok (.tuple #[.agg #[x, y, z], tmps.getD u undef]) w := by
  rw [results_cell_tmp h, hp]
  have e : (asAddr (.pointer (some ⟨g, 0, none⟩))).run Tryd.prog w = .ok ⟨g, 0, none⟩ w := by simp [asAddr]
  rw [e, Result.andThen_ok, fun_loaded hg]
  rfl
/-- Where a function ends. -/
theorem fun_fin {lv v0 v : Value} {w0 w w3 : World} {g p q : Nat} {L : List Nb} {x y z x' y' z' : Value} (h : St lv w0 g v0 w p v L) (hb : Below w.heap.size w w3) (hr : w3.heap[w.heap.size]? = some (.cells #[x, y, z] 64 (0, 0))) :
    St lv w0 g v0 ((((w3.setCell ⟨g, 1, none⟩ (.int .i64 (q : Int))).setCell ⟨w.heap.size, 0, none⟩ x').setCell ⟨w.heap.size, 1, none⟩ y').setCell ⟨w.heap.size, 2, none⟩ z') q v L ∧ ((((w3.setCell ⟨g, 1, none⟩ (.int .i64 (q : Int))).setCell ⟨w.heap.size, 0, none⟩ x').setCell ⟨w.heap.size, 1, none⟩ y').setCell ⟨w.heap.size, 2, none⟩ z').heap[w.heap.size]? = some (.cells #[x', y', z'] 64 (0, 0)) := by
  have hg := h.lt
  have h3 := h.keep hb
  refine ⟨h.of ((((Chg.of hb).set _).setNew (Nat.le_refl _) _ |>.setNew (Nat.le_refl _) _).setNew (Nat.le_refl _) _) ((((h3.cur.set q).other (by omega) _ _).other (by omega) _ _).other (by omega) _ _), fun_stored (x := x) (y := y) (z := z) ?_⟩
  have ww : Win g (g + 1) w3 (w3.setCell ⟨g, 1, none⟩ (.int .i64 (q : Int))) := win_setCell _ _ _ _
  rw [ww.block _ (lt_of_heapA hr) (by omega)]
  exact hr
/-- What l9Fun answers. -/
def FunPost (n : Nat) (T : Nat → Spn) (lv : Value) (w0 : World) (g : Nat) (v0 : Value) (w : World) (p : Nat) (v : Value) (L : List Nb) (r : Ending) (w' : World) : Prop :=
  if tkK n T p = 3 then r = .returned (.tuple #[.agg #[.int .i64 (funP n T p).1.1, .int .i64 (funP n T p).1.2.1, .int .i64 (funP n T p).1.2.2], .bool true]) ∧ St lv w0 g v0 w' (funP n T p).2 v L ∧ Chg g (.slice none 0 0) w w'
  else r = .returned (.tuple #[.agg #[.int .i64 0, .int .i64 0, .int .i64 0], .bool false]) ∧ Below w.heap.size w w'
set_option maxRecDepth 20000 in
set_option maxHeartbeats 8000000 in
/-- l9Fun. -/
theorem fun9_spec {w0 w : World} {g n c p : Nat} {a : Option Addr} {v0 v : Value} {T : Nat → Spn} {L : List Nb} (h : St (.slice a n c) w0 g v0 w p v L) (ht : SsA w a n T) (ha : tokAll T n = true) (hn : n ≤ 1048576) (hp : p ≤ 1048576) :
    Calls Tryd.prog 35 #[.pointer (some ⟨g, 0, none⟩)] w fun r w' => FunPost n T (.slice a n c) w0 g v0 w p v L r w' := by
  have H : Hid (St (.slice a n c) w0 g v0 w p v L) := h
  have KS : Hid (∀ (j : Nat) W, j ≤ 10 → Below w.heap.size w W → Calls Tryd.prog 55 #[.pointer (some ⟨g, 0, none⟩), .int .i64 (j : Int)] W fun e w' => e = .returned (.int .i64 (sgP n T (p + j))) ∧ Below W.heap.size W w') := fun j W hj hb => sign9_spec (h.keep hb).cur (ht.keep hb) j hn hp hj
  have BA : Hid (Below w.heap.size w (w.alloc (.cells #[.int .i64 0, .int .i64 0, .int .i64 0] 64))) := bAlloc (Below.refl _ _) _
  have HRA : Hid ((w.alloc (.cells #[.int .i64 0, .int .i64 0, .int .i64 0] 64)).heap[w.heap.size]? = some (.cells #[.int .i64 0, .int .i64 0, .int .i64 0] 64 (0, 0))) := heap_alloc_new _ _
  have K0 : Hid (∀ W, Below w.heap.size w W → Calls Tryd.prog 55 #[.pointer (some ⟨g, 0, none⟩), .int .i64 0] W fun e w' => e = .returned (.int .i64 (sgP n T p)) ∧ Below W.heap.size W w') := fun W hb => KS.out 0 W (by decide) hb
  have K1 : Hid (∀ W, Below w.heap.size w W → Calls Tryd.prog 55 #[.pointer (some ⟨g, 0, none⟩), .int .i64 1] W fun e w' => e = .returned (.int .i64 (sgP n T (p + 1))) ∧ Below W.heap.size W w') := fun W hb => KS.out 1 W (by decide) hb
  have K2 : Hid (∀ W, Below w.heap.size w W → Calls Tryd.prog 55 #[.pointer (some ⟨g, 0, none⟩), .int .i64 2] W fun e w' => e = .returned (.int .i64 (sgP n T (p + 2))) ∧ Below W.heap.size W w') := fun W hb => KS.out 2 W (by decide) hb
  have w2p : IntKind.i64.wrap ((p : Int) + 2) = ((p + 2 : Nat) : Int) := by rw [IntKind.wrap_i64]; omega
  have w3p : IntKind.i64.wrap ((p : Int) + 3) = ((p + 3 : Nat) : Int) := by rw [IntKind.wrap_i64]; omega
  have w1p : IntKind.i64.wrap ((p : Int) + 1) = ((p + 1 : Nat) : Int) := by rw [IntKind.wrap_i64]; omega
  clear KS
  unfold FunPost
  by_cases h3 : tkK n T p = 3
  · simp only [if_pos h3]
    rw [funP_sg ha h3]
    have hA : ¬ sgP n T p = 0 := by rw [show sgP n T p = tkN n T p from if_pos h3]; exact sgP_ne ha h3
    have eA : (sgP n T p == 0) = false := by simpa using hA
    generalize sgP n T p = A at *
    generalize sgP n T (p + 1) = B at *
    generalize sgP n T (p + 2) = D at *
    clear h ht ha h3
    by_cases c1 : A = 111 ∧ B ≠ 0
    · have eB : (B != 0) = true := by simpa using c1.2
      have eC : (A == 111) = true := by simpa using c1.1
      have cA := c1.1
      subst cA
      have ES : sgF 111 B D = ((B, 111, 0), 2) := by unfold sgF; rw [if_pos c1]
      rw [ES]
      clear ES
      go_enter Tryd.func35, Tryd.ntmps35
      go_wp2_with fail
      refine (K0.out _ BA.out).mono ?_
      rintro r w1 ⟨rfl, hb⟩
      have B1 : Hid (Below w.heap.size w w1) := bTrans BA.out hb
      have R1 : Hid (w1.heap[w.heap.size]? = some (.cells #[.int .i64 0, .int .i64 0, .int .i64 0] 64 (0, 0))) := by show _ = _; rw [hb.block _ (by simp)]; exact HRA.out
      clear hb BA HRA
      go_wp2_with fail
      refine (K1.out _ B1.out).mono ?_
      rintro r w2 ⟨rfl, hb⟩
      have B2 : Hid (Below w.heap.size w w2) := bTrans B1.out hb
      have R2 : Hid (w2.heap[w.heap.size]? = some (.cells #[.int .i64 0, .int .i64 0, .int .i64 0] 64 (0, 0))) := by show _ = _; rw [hb.block _ (lt_of_heapA R1.out)]; exact R1.out
      clear hb B1 R1
      go_wp2_with fail
      refine (K2.out _ B2.out).mono ?_
      rintro r w3 ⟨rfl, hb⟩
      have B3 : Hid (Below w.heap.size w w3) := bTrans B2.out hb
      have R3 : Hid (w3.heap[w.heap.size]? = some (.cells #[.int .i64 0, .int .i64 0, .int .i64 0] 64 (0, 0))) := by show _ = _; rw [hb.block _ (lt_of_heapA R2.out)]; exact R2.out
      clear hb B2 R2 K0 K1 K2
      have S3 := H.out.keep B3.out
      have d0 := cell_at (k := 0) R3.out rfl
      have d1 := cell_at (k := 1) R3.out rfl
      have d2 := cell_at (k := 2) R3.out rfl
      have r0 := free_at R3.out 0
      have r1 := free_at R3.out 1
      have r2 := free_at R3.out 2
      have e1 := S3.c1
      have f1 := S3.free 1
      have LG : g < w.heap.size := H.out.lt
      have NG : ¬ w.heap.size = g := by omega
      have NG' : ¬ g = w.heap.size := by omega
      clear S3
      have FF := fun_fin (q := p + 2) (x' := .int .i64 (B)) (y' := .int .i64 (111)) (z' := .int .i64 (0)) H.out B3.out R3.out
      have FF : Hid _ := FF
      have CF : Hid (Chg g (.slice none 0 0) w ((((w3.setCell ⟨g, 1, none⟩ (.int .i64 ((p + 2 : Nat) : Int))).setCell ⟨w.heap.size, 0, none⟩ (.int .i64 (B))).setCell ⟨w.heap.size, 1, none⟩ (.int .i64 (111))).setCell ⟨w.heap.size, 2, none⟩ (.int .i64 (0)))) := ((((Chg.of B3.out).set _).setNew (Nat.le_refl _) _).setNew (Nat.le_refl _) _).setNew (Nat.le_refl _) _
      clear B3 R3 H
      go_wp2
      refine bodyPost_ret (results_fun_tmp Tryd.results35 _ _ w.heap.size _ _ _ rfl FF.out.2) rfl ?_
      exact ⟨rfl, FF.out.1, CF.out⟩
    · have eC : ((A == 111) && (B != 0)) = false := by rw [Bool.and_eq_false_iff]; simp; simp at c1; omega
      have kC : (A == 111) = false ∨ ((A == 111) = true ∧ (B != 0) = false) := by simp; simp at c1; omega
      clear eC
      by_cases c2 : B = 47 ∨ B = 92
      · rcases kC with kA | ⟨kA, kB⟩
        · rcases c2 with c2 | c2
          · subst c2
            have ES : sgF A 47 D = ((A, 47, 0), 2) := by unfold sgF; rw [if_neg c1, if_pos (.inl rfl)]
            rw [ES]
            clear ES
            go_enter Tryd.func35, Tryd.ntmps35
            go_wp2_with fail
            refine (K0.out _ BA.out).mono ?_
            rintro r w1 ⟨rfl, hb⟩
            have B1 : Hid (Below w.heap.size w w1) := bTrans BA.out hb
            have R1 : Hid (w1.heap[w.heap.size]? = some (.cells #[.int .i64 0, .int .i64 0, .int .i64 0] 64 (0, 0))) := by show _ = _; rw [hb.block _ (by simp)]; exact HRA.out
            clear hb BA HRA
            go_wp2_with fail
            refine (K1.out _ B1.out).mono ?_
            rintro r w2 ⟨rfl, hb⟩
            have B2 : Hid (Below w.heap.size w w2) := bTrans B1.out hb
            have R2 : Hid (w2.heap[w.heap.size]? = some (.cells #[.int .i64 0, .int .i64 0, .int .i64 0] 64 (0, 0))) := by show _ = _; rw [hb.block _ (lt_of_heapA R1.out)]; exact R1.out
            clear hb B1 R1
            go_wp2_with fail
            refine (K2.out _ B2.out).mono ?_
            rintro r w3 ⟨rfl, hb⟩
            have B3 : Hid (Below w.heap.size w w3) := bTrans B2.out hb
            have R3 : Hid (w3.heap[w.heap.size]? = some (.cells #[.int .i64 0, .int .i64 0, .int .i64 0] 64 (0, 0))) := by show _ = _; rw [hb.block _ (lt_of_heapA R2.out)]; exact R2.out
            clear hb B2 R2 K0 K1 K2
            have S3 := H.out.keep B3.out
            have d0 := cell_at (k := 0) R3.out rfl
            have d1 := cell_at (k := 1) R3.out rfl
            have d2 := cell_at (k := 2) R3.out rfl
            have r0 := free_at R3.out 0
            have r1 := free_at R3.out 1
            have r2 := free_at R3.out 2
            have e1 := S3.c1
            have f1 := S3.free 1
            have LG : g < w.heap.size := H.out.lt
            have NG : ¬ w.heap.size = g := by omega
            have NG' : ¬ g = w.heap.size := by omega
            clear S3
            have FF := fun_fin (q := p + 2) (x' := .int .i64 (A)) (y' := .int .i64 (47)) (z' := .int .i64 (0)) H.out B3.out R3.out
            have FF : Hid _ := FF
            have CF : Hid (Chg g (.slice none 0 0) w ((((w3.setCell ⟨g, 1, none⟩ (.int .i64 ((p + 2 : Nat) : Int))).setCell ⟨w.heap.size, 0, none⟩ (.int .i64 (A))).setCell ⟨w.heap.size, 1, none⟩ (.int .i64 (47))).setCell ⟨w.heap.size, 2, none⟩ (.int .i64 (0)))) := ((((Chg.of B3.out).set _).setNew (Nat.le_refl _) _).setNew (Nat.le_refl _) _).setNew (Nat.le_refl _) _
            clear B3 R3 H
            go_wp2
            refine bodyPost_ret (results_fun_tmp Tryd.results35 _ _ w.heap.size _ _ _ rfl FF.out.2) rfl ?_
            exact ⟨rfl, FF.out.1, CF.out⟩
          · subst c2
            have ES : sgF A 92 D = ((A, 92, 0), 2) := by unfold sgF; rw [if_neg c1, if_pos (.inr rfl)]
            rw [ES]
            clear ES
            go_enter Tryd.func35, Tryd.ntmps35
            go_wp2_with fail
            refine (K0.out _ BA.out).mono ?_
            rintro r w1 ⟨rfl, hb⟩
            have B1 : Hid (Below w.heap.size w w1) := bTrans BA.out hb
            have R1 : Hid (w1.heap[w.heap.size]? = some (.cells #[.int .i64 0, .int .i64 0, .int .i64 0] 64 (0, 0))) := by show _ = _; rw [hb.block _ (by simp)]; exact HRA.out
            clear hb BA HRA
            go_wp2_with fail
            refine (K1.out _ B1.out).mono ?_
            rintro r w2 ⟨rfl, hb⟩
            have B2 : Hid (Below w.heap.size w w2) := bTrans B1.out hb
            have R2 : Hid (w2.heap[w.heap.size]? = some (.cells #[.int .i64 0, .int .i64 0, .int .i64 0] 64 (0, 0))) := by show _ = _; rw [hb.block _ (lt_of_heapA R1.out)]; exact R1.out
            clear hb B1 R1
            go_wp2_with fail
            refine (K2.out _ B2.out).mono ?_
            rintro r w3 ⟨rfl, hb⟩
            have B3 : Hid (Below w.heap.size w w3) := bTrans B2.out hb
            have R3 : Hid (w3.heap[w.heap.size]? = some (.cells #[.int .i64 0, .int .i64 0, .int .i64 0] 64 (0, 0))) := by show _ = _; rw [hb.block _ (lt_of_heapA R2.out)]; exact R2.out
            clear hb B2 R2 K0 K1 K2
            have S3 := H.out.keep B3.out
            have d0 := cell_at (k := 0) R3.out rfl
            have d1 := cell_at (k := 1) R3.out rfl
            have d2 := cell_at (k := 2) R3.out rfl
            have r0 := free_at R3.out 0
            have r1 := free_at R3.out 1
            have r2 := free_at R3.out 2
            have e1 := S3.c1
            have f1 := S3.free 1
            have LG : g < w.heap.size := H.out.lt
            have NG : ¬ w.heap.size = g := by omega
            have NG' : ¬ g = w.heap.size := by omega
            clear S3
            have FF := fun_fin (q := p + 2) (x' := .int .i64 (A)) (y' := .int .i64 (92)) (z' := .int .i64 (0)) H.out B3.out R3.out
            have FF : Hid _ := FF
            have CF : Hid (Chg g (.slice none 0 0) w ((((w3.setCell ⟨g, 1, none⟩ (.int .i64 ((p + 2 : Nat) : Int))).setCell ⟨w.heap.size, 0, none⟩ (.int .i64 (A))).setCell ⟨w.heap.size, 1, none⟩ (.int .i64 (92))).setCell ⟨w.heap.size, 2, none⟩ (.int .i64 (0)))) := ((((Chg.of B3.out).set _).setNew (Nat.le_refl _) _).setNew (Nat.le_refl _) _).setNew (Nat.le_refl _) _
            clear B3 R3 H
            go_wp2
            refine bodyPost_ret (results_fun_tmp Tryd.results35 _ _ w.heap.size _ _ _ rfl FF.out.2) rfl ?_
            exact ⟨rfl, FF.out.1, CF.out⟩
        · simp at kB; omega
      · have e47 : (B == 47) = false := by simp; omega
        have e92 : (B == 92) = false := by simp; omega
        by_cases c4 : B = 46 ∧ D ≠ 0
        · have eD : (D != 0) = true := by simpa using c4.2
          have cB := c4.1
          subst cB
          rcases kC with kA | ⟨kA, kB⟩
          · skip
            have ES : sgF A 46 D = ((A, 46, D), 3) := by unfold sgF; rw [if_neg c1, if_neg c2, if_pos c4]
            rw [ES]
            clear ES
            go_enter Tryd.func35, Tryd.ntmps35
            go_wp2_with fail
            refine (K0.out _ BA.out).mono ?_
            rintro r w1 ⟨rfl, hb⟩
            have B1 : Hid (Below w.heap.size w w1) := bTrans BA.out hb
            have R1 : Hid (w1.heap[w.heap.size]? = some (.cells #[.int .i64 0, .int .i64 0, .int .i64 0] 64 (0, 0))) := by show _ = _; rw [hb.block _ (by simp)]; exact HRA.out
            clear hb BA HRA
            go_wp2_with fail
            refine (K1.out _ B1.out).mono ?_
            rintro r w2 ⟨rfl, hb⟩
            have B2 : Hid (Below w.heap.size w w2) := bTrans B1.out hb
            have R2 : Hid (w2.heap[w.heap.size]? = some (.cells #[.int .i64 0, .int .i64 0, .int .i64 0] 64 (0, 0))) := by show _ = _; rw [hb.block _ (lt_of_heapA R1.out)]; exact R1.out
            clear hb B1 R1
            go_wp2_with fail
            refine (K2.out _ B2.out).mono ?_
            rintro r w3 ⟨rfl, hb⟩
            have B3 : Hid (Below w.heap.size w w3) := bTrans B2.out hb
            have R3 : Hid (w3.heap[w.heap.size]? = some (.cells #[.int .i64 0, .int .i64 0, .int .i64 0] 64 (0, 0))) := by show _ = _; rw [hb.block _ (lt_of_heapA R2.out)]; exact R2.out
            clear hb B2 R2 K0 K1 K2
            have S3 := H.out.keep B3.out
            have d0 := cell_at (k := 0) R3.out rfl
            have d1 := cell_at (k := 1) R3.out rfl
            have d2 := cell_at (k := 2) R3.out rfl
            have r0 := free_at R3.out 0
            have r1 := free_at R3.out 1
            have r2 := free_at R3.out 2
            have e1 := S3.c1
            have f1 := S3.free 1
            have LG : g < w.heap.size := H.out.lt
            have NG : ¬ w.heap.size = g := by omega
            have NG' : ¬ g = w.heap.size := by omega
            clear S3
            have FF := fun_fin (q := p + 3) (x' := .int .i64 (A)) (y' := .int .i64 (46)) (z' := .int .i64 (D)) H.out B3.out R3.out
            have FF : Hid _ := FF
            have CF : Hid (Chg g (.slice none 0 0) w ((((w3.setCell ⟨g, 1, none⟩ (.int .i64 ((p + 3 : Nat) : Int))).setCell ⟨w.heap.size, 0, none⟩ (.int .i64 (A))).setCell ⟨w.heap.size, 1, none⟩ (.int .i64 (46))).setCell ⟨w.heap.size, 2, none⟩ (.int .i64 (D)))) := ((((Chg.of B3.out).set _).setNew (Nat.le_refl _) _).setNew (Nat.le_refl _) _).setNew (Nat.le_refl _) _
            clear B3 R3 H
            go_wp2
            refine bodyPost_ret (results_fun_tmp Tryd.results35 _ _ w.heap.size _ _ _ rfl FF.out.2) rfl ?_
            exact ⟨rfl, FF.out.1, CF.out⟩
          · simp at kB
        · have k4 : (B == 46) = false ∨ ((B == 46) = true ∧ (D != 0) = false) := by simp; simp at c4; omega
          rcases kC with kA | ⟨kA, kB⟩
          · rcases k4 with k5 | ⟨k5, k6⟩
            · skip
              have ES : sgF A B D = ((A, 0, 0), 1) := by unfold sgF; rw [if_neg c1, if_neg c2, if_neg c4]
              rw [ES]
              clear ES
              go_enter Tryd.func35, Tryd.ntmps35
              go_wp2_with fail
              refine (K0.out _ BA.out).mono ?_
              rintro r w1 ⟨rfl, hb⟩
              have B1 : Hid (Below w.heap.size w w1) := bTrans BA.out hb
              have R1 : Hid (w1.heap[w.heap.size]? = some (.cells #[.int .i64 0, .int .i64 0, .int .i64 0] 64 (0, 0))) := by show _ = _; rw [hb.block _ (by simp)]; exact HRA.out
              clear hb BA HRA
              go_wp2_with fail
              refine (K1.out _ B1.out).mono ?_
              rintro r w2 ⟨rfl, hb⟩
              have B2 : Hid (Below w.heap.size w w2) := bTrans B1.out hb
              have R2 : Hid (w2.heap[w.heap.size]? = some (.cells #[.int .i64 0, .int .i64 0, .int .i64 0] 64 (0, 0))) := by show _ = _; rw [hb.block _ (lt_of_heapA R1.out)]; exact R1.out
              clear hb B1 R1
              go_wp2_with fail
              refine (K2.out _ B2.out).mono ?_
              rintro r w3 ⟨rfl, hb⟩
              have B3 : Hid (Below w.heap.size w w3) := bTrans B2.out hb
              have R3 : Hid (w3.heap[w.heap.size]? = some (.cells #[.int .i64 0, .int .i64 0, .int .i64 0] 64 (0, 0))) := by show _ = _; rw [hb.block _ (lt_of_heapA R2.out)]; exact R2.out
              clear hb B2 R2 K0 K1 K2
              have S3 := H.out.keep B3.out
              have d0 := cell_at (k := 0) R3.out rfl
              have d1 := cell_at (k := 1) R3.out rfl
              have d2 := cell_at (k := 2) R3.out rfl
              have r0 := free_at R3.out 0
              have r1 := free_at R3.out 1
              have r2 := free_at R3.out 2
              have e1 := S3.c1
              have f1 := S3.free 1
              have LG : g < w.heap.size := H.out.lt
              have NG : ¬ w.heap.size = g := by omega
              have NG' : ¬ g = w.heap.size := by omega
              clear S3
              have FF := fun_fin (q := p + 1) (x' := .int .i64 (A)) (y' := .int .i64 (0)) (z' := .int .i64 (0)) H.out B3.out R3.out
              have FF : Hid _ := FF
              have CF : Hid (Chg g (.slice none 0 0) w ((((w3.setCell ⟨g, 1, none⟩ (.int .i64 ((p + 1 : Nat) : Int))).setCell ⟨w.heap.size, 0, none⟩ (.int .i64 (A))).setCell ⟨w.heap.size, 1, none⟩ (.int .i64 (0))).setCell ⟨w.heap.size, 2, none⟩ (.int .i64 (0)))) := ((((Chg.of B3.out).set _).setNew (Nat.le_refl _) _).setNew (Nat.le_refl _) _).setNew (Nat.le_refl _) _
              clear B3 R3 H
              go_wp2
              refine bodyPost_ret (results_fun_tmp Tryd.results35 _ _ w.heap.size _ _ _ rfl FF.out.2) rfl ?_
              exact ⟨rfl, FF.out.1, CF.out⟩
            · skip
              have ES : sgF A B D = ((A, 0, 0), 1) := by unfold sgF; rw [if_neg c1, if_neg c2, if_neg c4]
              rw [ES]
              clear ES
              go_enter Tryd.func35, Tryd.ntmps35
              go_wp2_with fail
              refine (K0.out _ BA.out).mono ?_
              rintro r w1 ⟨rfl, hb⟩
              have B1 : Hid (Below w.heap.size w w1) := bTrans BA.out hb
              have R1 : Hid (w1.heap[w.heap.size]? = some (.cells #[.int .i64 0, .int .i64 0, .int .i64 0] 64 (0, 0))) := by show _ = _; rw [hb.block _ (by simp)]; exact HRA.out
              clear hb BA HRA
              go_wp2_with fail
              refine (K1.out _ B1.out).mono ?_
              rintro r w2 ⟨rfl, hb⟩
              have B2 : Hid (Below w.heap.size w w2) := bTrans B1.out hb
              have R2 : Hid (w2.heap[w.heap.size]? = some (.cells #[.int .i64 0, .int .i64 0, .int .i64 0] 64 (0, 0))) := by show _ = _; rw [hb.block _ (lt_of_heapA R1.out)]; exact R1.out
              clear hb B1 R1
              go_wp2_with fail
              refine (K2.out _ B2.out).mono ?_
              rintro r w3 ⟨rfl, hb⟩
              have B3 : Hid (Below w.heap.size w w3) := bTrans B2.out hb
              have R3 : Hid (w3.heap[w.heap.size]? = some (.cells #[.int .i64 0, .int .i64 0, .int .i64 0] 64 (0, 0))) := by show _ = _; rw [hb.block _ (lt_of_heapA R2.out)]; exact R2.out
              clear hb B2 R2 K0 K1 K2
              have S3 := H.out.keep B3.out
              have d0 := cell_at (k := 0) R3.out rfl
              have d1 := cell_at (k := 1) R3.out rfl
              have d2 := cell_at (k := 2) R3.out rfl
              have r0 := free_at R3.out 0
              have r1 := free_at R3.out 1
              have r2 := free_at R3.out 2
              have e1 := S3.c1
              have f1 := S3.free 1
              have LG : g < w.heap.size := H.out.lt
              have NG : ¬ w.heap.size = g := by omega
              have NG' : ¬ g = w.heap.size := by omega
              clear S3
              have FF := fun_fin (q := p + 1) (x' := .int .i64 (A)) (y' := .int .i64 (0)) (z' := .int .i64 (0)) H.out B3.out R3.out
              have FF : Hid _ := FF
              have CF : Hid (Chg g (.slice none 0 0) w ((((w3.setCell ⟨g, 1, none⟩ (.int .i64 ((p + 1 : Nat) : Int))).setCell ⟨w.heap.size, 0, none⟩ (.int .i64 (A))).setCell ⟨w.heap.size, 1, none⟩ (.int .i64 (0))).setCell ⟨w.heap.size, 2, none⟩ (.int .i64 (0)))) := ((((Chg.of B3.out).set _).setNew (Nat.le_refl _) _).setNew (Nat.le_refl _) _).setNew (Nat.le_refl _) _
              clear B3 R3 H
              go_wp2
              refine bodyPost_ret (results_fun_tmp Tryd.results35 _ _ w.heap.size _ _ _ rfl FF.out.2) rfl ?_
              exact ⟨rfl, FF.out.1, CF.out⟩
          · rcases k4 with k5 | ⟨k5, k6⟩
            · skip
              have ES : sgF A B D = ((A, 0, 0), 1) := by unfold sgF; rw [if_neg c1, if_neg c2, if_neg c4]
              rw [ES]
              clear ES
              go_enter Tryd.func35, Tryd.ntmps35
              go_wp2_with fail
              refine (K0.out _ BA.out).mono ?_
              rintro r w1 ⟨rfl, hb⟩
              have B1 : Hid (Below w.heap.size w w1) := bTrans BA.out hb
              have R1 : Hid (w1.heap[w.heap.size]? = some (.cells #[.int .i64 0, .int .i64 0, .int .i64 0] 64 (0, 0))) := by show _ = _; rw [hb.block _ (by simp)]; exact HRA.out
              clear hb BA HRA
              go_wp2_with fail
              refine (K1.out _ B1.out).mono ?_
              rintro r w2 ⟨rfl, hb⟩
              have B2 : Hid (Below w.heap.size w w2) := bTrans B1.out hb
              have R2 : Hid (w2.heap[w.heap.size]? = some (.cells #[.int .i64 0, .int .i64 0, .int .i64 0] 64 (0, 0))) := by show _ = _; rw [hb.block _ (lt_of_heapA R1.out)]; exact R1.out
              clear hb B1 R1
              go_wp2_with fail
              refine (K2.out _ B2.out).mono ?_
              rintro r w3 ⟨rfl, hb⟩
              have B3 : Hid (Below w.heap.size w w3) := bTrans B2.out hb
              have R3 : Hid (w3.heap[w.heap.size]? = some (.cells #[.int .i64 0, .int .i64 0, .int .i64 0] 64 (0, 0))) := by show _ = _; rw [hb.block _ (lt_of_heapA R2.out)]; exact R2.out
              clear hb B2 R2 K0 K1 K2
              have S3 := H.out.keep B3.out
              have d0 := cell_at (k := 0) R3.out rfl
              have d1 := cell_at (k := 1) R3.out rfl
              have d2 := cell_at (k := 2) R3.out rfl
              have r0 := free_at R3.out 0
              have r1 := free_at R3.out 1
              have r2 := free_at R3.out 2
              have e1 := S3.c1
              have f1 := S3.free 1
              have LG : g < w.heap.size := H.out.lt
              have NG : ¬ w.heap.size = g := by omega
              have NG' : ¬ g = w.heap.size := by omega
              clear S3
              have FF := fun_fin (q := p + 1) (x' := .int .i64 (A)) (y' := .int .i64 (0)) (z' := .int .i64 (0)) H.out B3.out R3.out
              have FF : Hid _ := FF
              have CF : Hid (Chg g (.slice none 0 0) w ((((w3.setCell ⟨g, 1, none⟩ (.int .i64 ((p + 1 : Nat) : Int))).setCell ⟨w.heap.size, 0, none⟩ (.int .i64 (A))).setCell ⟨w.heap.size, 1, none⟩ (.int .i64 (0))).setCell ⟨w.heap.size, 2, none⟩ (.int .i64 (0)))) := ((((Chg.of B3.out).set _).setNew (Nat.le_refl _) _).setNew (Nat.le_refl _) _).setNew (Nat.le_refl _) _
              clear B3 R3 H
              go_wp2
              refine bodyPost_ret (results_fun_tmp Tryd.results35 _ _ w.heap.size _ _ _ rfl FF.out.2) rfl ?_
              exact ⟨rfl, FF.out.1, CF.out⟩
            · simp at kB k5; omega
  · simp only [if_neg h3]
    have hA : sgP n T p = 0 := if_neg h3
    rw [hA] at K0
    generalize sgP n T (p + 1) = B at *
    generalize sgP n T (p + 2) = D at *
    clear h ht ha h3
    go_enter Tryd.func35, Tryd.ntmps35
    go_wp2_with fail
    refine (K0.out _ BA.out).mono ?_
    rintro r w1 ⟨rfl, hb⟩
    have B1 : Hid (Below w.heap.size w w1) := bTrans BA.out hb
    have R1 : Hid (w1.heap[w.heap.size]? = some (.cells #[.int .i64 0, .int .i64 0, .int .i64 0] 64 (0, 0))) := by show _ = _; rw [hb.block _ (by simp)]; exact HRA.out
    clear hb BA HRA
    go_wp2_with fail
    refine (K1.out _ B1.out).mono ?_
    rintro r w2 ⟨rfl, hb⟩
    have B2 : Hid (Below w.heap.size w w2) := bTrans B1.out hb
    have R2 : Hid (w2.heap[w.heap.size]? = some (.cells #[.int .i64 0, .int .i64 0, .int .i64 0] 64 (0, 0))) := by show _ = _; rw [hb.block _ (lt_of_heapA R1.out)]; exact R1.out
    clear hb B1 R1
    go_wp2_with fail
    refine (K2.out _ B2.out).mono ?_
    rintro r w3 ⟨rfl, hb⟩
    have B3 : Hid (Below w.heap.size w w3) := bTrans B2.out hb
    have R3 : Hid (w3.heap[w.heap.size]? = some (.cells #[.int .i64 0, .int .i64 0, .int .i64 0] 64 (0, 0))) := by show _ = _; rw [hb.block _ (lt_of_heapA R2.out)]; exact R2.out
    clear hb B2 R2 K0 K1 K2
    have S3 := H.out.keep B3.out
    have d0 := cell_at (k := 0) R3.out rfl
    have d1 := cell_at (k := 1) R3.out rfl
    have d2 := cell_at (k := 2) R3.out rfl
    have r0 := free_at R3.out 0
    have r1 := free_at R3.out 1
    have r2 := free_at R3.out 2
    have e1 := S3.c1
    have f1 := S3.free 1
    have LG : g < w.heap.size := H.out.lt
    have NG : ¬ w.heap.size = g := by omega
    have NG' : ¬ g = w.heap.size := by omega
    clear S3
    have HS := fun_stored (x' := .int .i64 0) (y' := .int .i64 0) (z' := .int .i64 0) R3.out
    have HS : Hid _ := HS
    clear R3 H
    go_wp2
    refine bodyPost_ret (results_fun_tmp Tryd.results35 _ _ w.heap.size _ _ _ rfl HS.out) rfl ?_
    exact ⟨rfl, below_setCell (below_setCell (below_setCell B3.out (Nat.le_refl _) _ _) (Nat.le_refl _) _ _) (Nat.le_refl _) _ _⟩
end Go.Proofs.YtnebjnglcfebeaaDoor