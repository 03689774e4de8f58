/-
  Walks: the program's HeapGet.
-/
import Derived.Test.YtfmfppndcbmohaaHeapG1
import Derived.Test.YtfmfppndcbmohaaHeapA
import Derived.Test.YtfmfppndcbmohaaImplArr3
namespace Go.Proofs.Ytfmfppndcbmohaa
open Go.RowKit
set_option linter.unusedVariables false
set_option linter.unusedSimpArgs false
/-- A list of numbers up to one. -/
theorem ints_uptoH {w : World} {a : Option Addr} {l : List Int} {c M : Nat} (h : Ints w a l) (hc : l.length ≤ c) (hM : M ≤ l.length) :
    ∃ a' c', (∀ W, (Instr.slice 22 (.slice a l.length c) none (some (.int .i64 (M : Int))) none).run Try.prog W = .ok (.slice a' M c') W) ∧ M ≤ c' ∧ Ints w a' (l.take M) := by
  have hrun : ∀ W, (Instr.slice 22 (.slice a l.length c) none (some (.int .i64 (M : Int))) none).run Try.prog W = .ok (sliced a 0 M c 1) W := by
    intro W
    have hs : (sizeOf 3).run Try.prog W = .ok 1 W := by kernel_rfl
    have he : Try.prog.elem 22 = 3 := by kernel_rfl
    rw [run_slice_h (P := Try.prog) (w := W) 22 a l.length c (by rw [he]; exact Try.underlying22) .i64 (M : Int) (by omega) (by omega), he, hs]
    simp [Result.andThen]
  refine ⟨_, _, hrun, by omega, ?_⟩
  by_cases h0 : M = 0
  · subst h0; exact .inl (by simp)
  · obtain ⟨b, o, rfl, _, _⟩ := h.at (k := 0) (by omega)
    have := ints_cut (m := 0) (n := M) h (by omega)
    have e : (if c = 0 then (some ⟨b, o, none⟩ : Option Addr) else (some (⟨b, o, none⟩ : Addr)).map (·.add (0 * 1))) = some ⟨b, o, none⟩ := by
      split
      · rfl
      · simp [Addr.add]
    rw [e]
    simpa using this
/-- A list of numbers from one on. -/
theorem ints_fromC {w : World} {a : Option Addr} {l : List Int} {c M : Nat} (h : Ints w a l) (hc : l.length ≤ c) (hM : M ≤ l.length) :
    ∃ a' c', (∀ W, (Instr.slice 22 (.slice a l.length c) (some (.int .i64 (M : Int))) none none).run Try.prog W = .ok (.slice a' (l.drop M).length c') W) ∧ (l.drop M).length ≤ c' ∧ Ints w a' (l.drop M) := by
  have hrun : ∀ W, (Instr.slice 22 (.slice a l.length c) (some (.int .i64 (M : Int))) none none).run Try.prog W = .ok (sliced a M l.length c 1) W := by
    intro W
    have hs : (sizeOf 3).run Try.prog W = .ok 1 W := by kernel_rfl
    have he : Try.prog.elem 22 = 3 := by kernel_rfl
    rw [run_slice_l (P := Try.prog) (w := W) 22 a l.length c (by rw [he]; exact Try.underlying22) .i64 (M : Int) (by omega) (by omega), he, hs]
    simp [Result.andThen]
  rw [show (l.drop M).length = l.length - M from by simp]
  refine ⟨_, _, hrun, by omega, ?_⟩
  by_cases h0 : l.length - M = 0
  · exact .inl (List.eq_nil_of_length_eq_zero (by simpa using h0))
  · obtain ⟨b, o, rfl, _, _⟩ := h.at (k := 0) (by omega)
    have := ints_cut (m := M) (n := l.length - M) h (by omega)
    rw [if_neg (by omega)]
    have e2 : (l.drop M).take (l.length - M) = l.drop M := List.take_of_length_le (by simp)
    rw [e2] at this
    by_cases hM0 : M = 0 <;> simpa [Addr.add, hM0] using this
set_option maxRecDepth 20000 in
set_option maxHeartbeats 8000000 in
/-- The words of a cell. -/
theorem wordsOf_impl {w : World} {v : Value} {W : List Int} {t : Int} {n : Nat} {E : Nat → Cel} (h : HI w v W t n E) {F L : Nat} (b : Bool) (hFL : F + L ≤ W.length) (hW : W.length ≤ 1048576) :
    Calls Try.prog 61 #[v, .agg #[.int .i64 (F : Int), .int .i64 (L : Int), .bool b]] w fun e w' => ∃ a' c', e = .returned (.slice a' L c') ∧ L ≤ c' ∧ Ints w' a' ((W.drop F).take L) ∧ Below w.heap.size w w' := by
  obtain ⟨wa, wc, ca, cc, rfl, h1, h2, h3, h4⟩ := h
  obtain ⟨a1, c1, hs1, hc1, i1⟩ := ints_mid (F := F) (L := L) h1 h2 hFL
  have I1 : Hid (Ints w a1 ((W.drop F).take L)) := i1
  clear h1 h2 h3 h4 i1
  go_enter Try.func61, Try.ntmps61
  go_wp2
  generalize hV : (w.alloc (.cells #[.slice wa W.length wc, .int .i64 t, .slice ca n cc] 30)).alloc (.cells #[.int .i64 (F : Int), .int .i64 (L : Int), .bool b] 58) = V
  have BV : Hid (Below w.heap.size w V) := by rw [← hV]; exact bAlloc (bAlloc (Below.refl _ _) _) _
  have X : Hid (Box3 V w.heap.size (.slice wa W.length wc) (.int .i64 t) (.slice ca n cc) 30) := by rw [← hV]; exact (box3_new _ _ _ _ _).alloc _
  have Y : Hid (Box3 V (w.heap.size + 1) (.int .i64 (F : Int)) (.int .i64 (L : Int)) (.bool b) 58) := by
    have := box3_new (w.alloc (.cells #[.slice wa W.length wc, .int .i64 t, .slice ca n cc] 30)) (.int .i64 (F : Int)) (.int .i64 (L : Int)) (.bool b) 58
    show Box3 _ _ _ _ _ _
    rw [← hV]; simpa using this
  clear hV
  have KB : Hid (∀ W' : World, Below V.heap.size V W' → W'.cell? ⟨w.heap.size, 0, none⟩ = some (.slice wa W.length wc) ∧ W'.cell? ⟨w.heap.size + 1, 0, none⟩ = some (.int .i64 (F : Int)) ∧ W'.cell? ⟨w.heap.size + 1, 1, none⟩ = some (.int .i64 (L : Int)) ∧ W'.cell? ⟨w.heap.size + 1, 2, none⟩ = some (.bool b)) := fun W' hb => ⟨(X.out.keep hb).c0, (Y.out.keep hb).c0, (Y.out.keep hb).c1, (Y.out.keep hb).c2⟩
  have BH : Hid (∀ W', Calls Try.prog 38 #[.agg #[.int .i64 (F : Int), .int .i64 (L : Int), .bool b]] W' fun e w' => e = .returned (.int .i64 ((F : Int) + (L : Int))) ∧ Below W'.heap.size W' w') := fun W' => behind_impl _ _ _ W' (by unfold in64; omega)
  have u0 := X.out.c0
  have v0 := Y.out.c0
  have v1 := Y.out.c1
  have v2 := Y.out.c2
  go_region_held3 (fun w' => w'.cell? ⟨w.heap.size, 0, none⟩ = some (.slice wa W.length wc) ∧ w'.cell? ⟨w.heap.size + 1, 0, none⟩ = some (.int .i64 (F : Int)) ∧ w'.cell? ⟨w.heap.size + 1, 1, none⟩ = some (.int .i64 (L : Int)) ∧ w'.cell? ⟨w.heap.size + 1, 2, none⟩ = some (.bool b))
    ((refine KB.out _ ?_; (repeat first | exact BX.out | exact Below.refl _ _ | refine bAlloc ?_ _ | refine Below.drew ?_); done))
    ((go_at_call 38; refine (BH.out _).mono ?_; rintro r wx ⟨rfl, hb⟩; have BX : Hid (Below V.heap.size V wx) := bTrans (by repeat first | exact Below.refl _ _ | refine bAlloc ?_ _ | refine Below.drew ?_) hb; clear hb))
  all_goals
    go_wp2
    go_ret
    exact ⟨_, _, rfl, hc1, I1.out.keep (bTrans BV.out BX.out), bTrans BV.out BX.out⟩
/-- What words are as an array. -/
def aoS (ws : List Int) : List Int := ((arrOf ws).getD ([], [])).1
def aoD (ws : List Int) : List Int := ((arrOf ws).getD ([], [])).2
def aoB (ws : List Int) : Bool := (arrOf ws).isSome
set_option maxRecDepth 20000 in
set_option maxHeartbeats 8000000 in
theorem arrayOfWords_impl {w : World} {a : Option Addr} {c : Nat} {ws : List Int} (h : Ints w a ws) (hc : ws.length ≤ c) (h0 : 0 < ws.length) (hl : ws.length ≤ 1048576) :
    Calls Try.prog 74 #[.slice a ws.length c] w fun e w' => ∃ v', e = .returned (.tuple #[v', .bool (aoB ws)]) ∧ Arr w.heap.size w'.heap.size w' v' (aoS ws) (aoD ws) ∧ Below w.heap.size w w' := by
  obtain ⟨b1, o1, rfl, hb1, q0⟩ := h.at (k := 0) h0
  rw [Nat.add_zero] at q0
  have AO : Hid (arrOf ws = if 0 ≤ ws.getD 0 0 ∧ ws.getD 0 0 ≤ (ws.length : Int) - 1 then
    (if arrOk ((ws.drop 1).take (ws.getD 0 0).toNat) (ws.drop (1 + (ws.getD 0 0).toNat)) = true then some ((ws.drop 1).take (ws.getD 0 0).toNat, ws.drop (1 + (ws.getD 0 0).toNat)) else none) else none) := rfl
  generalize hr : ws.getD 0 0 = r at *
  obtain ⟨a2, c2, hs2, hc2, i2⟩ := ints_fromC (M := 1) h hc (by omega)
  have q1 : ∀ ob : Obj, (w.alloc ob).cell? ⟨b1, o1, none⟩ = some (.int .i64 r) := fun ob => ((bAlloc (Below.refl w.heap.size w) ob).cell (p := ⟨b1, o1, none⟩) hb1).trans q0
  have L1 : (0 : Int) < (ws.length : Int) := by omega
  have g2 : ∀ W, (Instr.slice 22 (.slice (some ⟨b1, o1, none⟩) ws.length c) (some (.int .i64 1)) none none).run Try.prog W = .ok (.slice a2 (ws.drop 1).length c2) W := hs2
  have lr : (ws.drop 1).length = ws.length - 1 := by simp
  obtain ⟨V, hV⟩ : ∃ V, V = w.alloc (.cells #[.slice none 0 0, .slice none 0 0] 45) := ⟨_, rfl⟩
  have BV : Hid (Below w.heap.size w V) := by rw [hV]; exact bAlloc (Below.refl _ _) _
  have YV : Hid (Box V w.heap.size (.slice none 0 0) (.slice none 0 0) 45) := by rw [hV]; exact heap_alloc_new _ _
  have I2 : Hid (Ints w a2 (ws.drop 1)) := i2
  have ZERO : Hid (arrOf ws = none → aoB ws = false ∧ aoS ws = [] ∧ aoD ws = []) := fun h => by simp [aoB, aoS, aoD, h]
  have SOME : Hid (∀ s d, arrOf ws = some (s, d) → aoB ws = true ∧ aoS ws = s ∧ aoD ws = d) := fun s d h => by simp [aoB, aoS, aoD, h]
  have q9 : V.cell? ⟨b1, o1, none⟩ = some (.int .i64 r) := by rw [hV]; exact q1 _
  have L0 : 0 < ws.length := h0
  have hl2 : (ws.drop 1).length ≤ 1048576 := by rw [lr]; omega
  go_enter Try.func74, Try.ntmps74
  go_wp2_with fail
  rw [← hV]
  clear hV q1 h
  go_quiet (fail)
  generalize hW2 : V.drewN nq = w2
  have B2 : Hid (Below w.heap.size w w2) := by rw [← hW2]; exact bDrewN BV.out nq
  have Y2 : Hid (Box w2 w.heap.size (.slice none 0 0) (.slice none 0 0) 45) := by rw [← hW2]; exact YV.out
  clear hW2 BV YV q9 g2 hs2
  have r0 := Y2.out.c0
  have r1 := Y2.out.c1
  have f0 : w2.frozen? ⟨w.heap.size, 0, none⟩ = false := free_at Y2.out 0
  have f1 : w2.frozen? ⟨w.heap.size, 1, none⟩ = false := free_at Y2.out 1
  by_cases c1 : r < 0
  · obtain ⟨z1, z2, z3⟩ := ZERO.out (by rw [AO.out, if_neg (by omega)])
    go_wp2
    refine bodyPost_ret (results_arr_tmp Try.results74 _ _ w.heap.size _ _ rfl (arr_stored Y2.out)) rfl ?_
    rw [z1, z2, z3]
    exact ⟨_, rfl, arr_zero _ _ _, below_setCell (below_setCell B2.out (Nat.le_refl _) _ _) (Nat.le_refl _) _ _⟩
  by_cases c2' : r > (ws.length : Int) - 1
  · obtain ⟨z1, z2, z3⟩ := ZERO.out (by rw [AO.out, if_neg (by omega)])
    have c3 : r > ((ws.drop 1).length : Int) := by rw [lr]; omega
    generalize (ws.drop 1).length = lr' at *
    go_wp2
    refine bodyPost_ret (results_arr_tmp Try.results74 _ _ w.heap.size _ _ rfl (arr_stored Y2.out)) rfl ?_
    exact ⟨_, rfl, arr_zero _ _ _, below_setCell (below_setCell B2.out (Nat.le_refl _) _ _) (Nat.le_refl _) _ _⟩
  obtain ⟨R, rfl⟩ : ∃ R : Nat, r = (R : Int) := ⟨r.toNat, by omega⟩
  have c3 : ¬ ((R : Int) > ((ws.drop 1).length : Int)) := by rw [lr]; omega
  have c4 : (R : Int) ≤ ((ws.drop 1).length : Int) := by rw [lr]; omega
  obtain ⟨a3, c3', hs3, hc3, i3⟩ := ints_uptoH (M := R) i2 hc2 (by rw [lr]; omega)
  obtain ⟨a4, c4', hs4, hc4, i4⟩ := ints_fromC (M := R) i2 hc2 (by rw [lr]; omega)
  have AO2 := AO.out
  rw [if_pos (by omega), Int.toNat_natCast, show ws.drop (1 + R) = (ws.drop 1).drop R by rw [List.drop_drop]] at AO2
  generalize ws.drop 1 = rest at *
  obtain ⟨S, hS⟩ : ∃ S, S = rest.take R := ⟨_, rfl⟩
  obtain ⟨D, hD⟩ : ∃ D, D = rest.drop R := ⟨_, rfl⟩
  rw [← hS] at i3 AO2
  rw [← hD] at i4 hs4 AO2 hc4
  have lS : S.length = R := by rw [hS]; simp; omega
  have AI : Hid (∀ W', Below w.heap.size w W' → Calls Try.prog 82 #[.agg #[.slice a3 R c3', .slice a4 D.length c4']] W' fun e w' => ∃ v', e = .returned (.tuple #[v', .bool (aoB ws)]) ∧ Arr W'.heap.size w'.heap.size w' v' (aoS ws) (aoD ws) ∧ Below W'.heap.size W' w') := fun W' hb => by
    have hD9 : D.length ≤ 1048576 := by rw [hD]; simp; omega
    have hcS : S.length ≤ c3' := by rw [lS]; exact hc3
    have := copyIfOk_impl (w := W') (v := .agg #[.slice a3 S.length c3', .slice a4 D.length c4']) ⟨a3, c3', a4, c4', rfl, i3.keep hb, i4.keep hb, hcS, hc4⟩ (by omega) hD9
    rw [lS] at this
    by_cases aa : arrOk S D = true
    · obtain ⟨z1, z2, z3⟩ := SOME.out S D (by rw [AO2, if_pos aa])
      rw [z1, z2, z3]
      simp only [aa, if_true] at this
      exact this
    · obtain ⟨z1, z2, z3⟩ := ZERO.out (by rw [AO2, if_neg aa])
      rw [z1, z2, z3]
      rw [show arrOk S D = false by simpa using aa] at this
      simpa using this
  obtain ⟨XS, hXS⟩ : ∃ X, X = aoS ws := ⟨_, rfl⟩
  obtain ⟨XD, hXD⟩ : ∃ X, X = aoD ws := ⟨_, rfl⟩
  obtain ⟨XB, hXB⟩ : ∃ X, X = aoB ws := ⟨_, rfl⟩
  rw [← hXS, ← hXD, ← hXB] at AI
  have HX : Hid (aoS ws = XS ∧ aoD ws = XD ∧ aoB ws = XB) := ⟨hXS.symm, hXD.symm, hXB.symm⟩
  clear hXS hXD hXB
  rw [lr] at hs3 hs4
  clear AO AO2 ZERO SOME hS hD i3 i4 I2 i2 lS hc4 hc3
  go_wp2_with fail
  go_region_held3 (fun _ => True) (exact trivial)
    ((go_at_call 82; refine (AI.out _ (by repeat first | exact B2.out | refine Below.drew ?_)).mono ?_; rintro r w3 ⟨v', rfl, hA, hb⟩; obtain ⟨ax, cx, ay, cy, rfl, _⟩ := hA.arrI; have B23 : Hid (Below w2.heap.size w2 w3) := bTrans (by repeat first | exact Below.refl _ _ | refine Below.drew ?_) hb; have A3 : Hid (Arr w2.heap.size w3.heap.size w3 (.agg #[.slice ax XS.length cx, .slice ay XD.length cy]) XS XD) := hA.mono (sizeBelowH (w := w2) (by repeat first | exact Below.refl _ _ | refine Below.drew ?_)) (Nat.le_refl _); have Y3 : Hid (Box w3 w.heap.size (.slice none 0 0) (.slice none 0 0) 45) := Y2.out.keep B23.out; have s0 := Y3.out.c0; have s1 := Y3.out.c1; have t0 : w3.frozen? ⟨w.heap.size, 0, none⟩ = false := free_at Y3.out 0; have t1 : w3.frozen? ⟨w.heap.size, 1, none⟩ = false := free_at Y3.out 1; clear hA hb))
  all_goals
    go_wp2
    refine bodyPost_ret (results_arr_tmp Try.results74 _ _ w.heap.size _ _ rfl (arr_stored Y3.out)) rfl ?_
    have S2 := Y2.out.lt
    have S3 := B23.out.size
    rw [HX.out.1, HX.out.2.1, HX.out.2.2]
    refine ⟨_, rfl, ?_, below_setCell (below_setCell (bTrans B2.out B23.out) (Nat.le_refl _) _ _) (Nat.le_refl _) _ _⟩
    exact ((A3.out.setCell S2 _ _).setCell S2 _ _).mono (by omega) (by simp [size_setCell])
theorem aoO (W : List Int) (t : Int) (n : Nat) (E : Nat → Cel) (k : Nat) (h1 : hOkB W.length t n E = true) (h2 : liveB n E (k : Int) = true) : gB W t n E k = aoB (wds W (E k)) ∧ gS W t n E k = aoS (wds W (E k)) ∧ gD W t n E k = aoD (wds W (E k)) := by
  have : gO W t n E k = arrOf (wds W (E k)) := by unfold gO; rw [if_pos ⟨h1, h2⟩]; simp
  unfold gB gS gD aoB aoS aoD
  rw [this]
  exact ⟨rfl, rfl, rfl⟩
set_option maxRecDepth 20000 in
set_option maxHeartbeats 8000000 in
theorem get_impl {w : World} {v : Value} {W : List Int} {t : Int} {n : Nat} {E : Nat → Cel} (i : Int) (h : HI w v W t n E) (hk : hOkB W.length t n E = true) (hW : W.length ≤ 1048576) (hn : n ≤ 1048576) :
    Calls Try.prog 54 #[v, .int .i64 i] w fun e w' => ∃ v', e = .returned (.tuple #[v', .bool (gB W t n E i)]) ∧ Arr w.heap.size w'.heap.size w' v' (gS W t n E i) (gD W t n E i) ∧ Below w.heap.size w w' := by
  have OK : Hid (hOk W.length t n E) := hOkB_iff.1 hk
  have HH : Hid (HI w v W t n E) := h
  obtain ⟨wa, wc, ca, cc, rfl, h1, h2, h3, h4⟩ := h
  have H3 : Hid (CsA w ca n E) := h3
  clear h1 h2 h3 h4
  go_enter Try.func54, Try.ntmps54
  go_wp2_with fail
  generalize hV : (w.alloc (.cells #[.slice wa W.length wc, .int .i64 t, .slice ca n cc] 30)).alloc (.cells #[.slice none 0 0, .slice none 0 0] 45) = V
  have B1 : Hid (Below w.heap.size w V) := by rw [← hV]; exact bAlloc (bAlloc (Below.refl _ _) _) _
  have X1 : Hid (Box3 V w.heap.size (.slice wa W.length wc) (.int .i64 t) (.slice ca n cc) 30) := by rw [← hV]; exact (box3_new _ _ _ _ _).alloc _
  have Y1 : Hid (Box V (w.heap.size + 1) (.slice none 0 0) (.slice none 0 0) 45) := by rw [← hV]; exact heap_alloc2_new w _ _
  clear hV
  refine (at_impl (H3.out.keep B1.out) OK.out.2.2.2.2.1 i hn).mono ?_
  rintro r w2 ⟨rfl, hb⟩
  have B2 : Hid (Below w.heap.size w w2) := bTrans B1.out hb
  have X2 : Hid (Box3 w2 w.heap.size (.slice wa W.length wc) (.int .i64 t) (.slice ca n cc) 30) := X1.out.keep hb
  have Y2 : Hid (Box w2 (w.heap.size + 1) (.slice none 0 0) (.slice none 0 0) 45) := Y1.out.keep hb
  clear hb B1 X1 Y1
  by_cases ll : liveB n E i = true
  case neg =>
    obtain ⟨e1, e2, e3⟩ := gO_none (W := W) (t := t) (n := n) (E := E) (i := i) (by unfold gO; rw [if_neg (fun h => ll h.2)])
    rw [show liveB n E i = false by simpa using ll]
    generalize (atC n E i).f = af at *
    generalize (atC n E i).l = al at *
    generalize (atC n E i).v = av at *
    have BO := bAlloc (Below.refl w2.heap.size w2) (.cells #[.int .i64 af, .int .i64 al, .bool av] 58)
    have Y3 := Y2.out.keep BO
    have r0 := Y3.c0
    have r1 := Y3.c1
    have f0 : (w2.alloc (.cells #[.int .i64 af, .int .i64 al, .bool av] 58)).frozen? ⟨w.heap.size + 1, 0, none⟩ = false := free_at Y3 0
    have f1 : (w2.alloc (.cells #[.int .i64 af, .int .i64 al, .bool av] 58)).frozen? ⟨w.heap.size + 1, 1, none⟩ = false := free_at Y3 1
    have Y4 : Hid (Box (w2.alloc (.cells #[.int .i64 af, .int .i64 al, .bool av] 58)) (w.heap.size + 1) (.slice none 0 0) (.slice none 0 0) 45) := Y3
    have B4 : Hid (Below w.heap.size w (w2.alloc (.cells #[.int .i64 af, .int .i64 al, .bool av] 58))) := bTrans B2.out BO
    clear BO Y3
    go_wp2
    refine bodyPost_ret (results_arr_tmp Try.results54 _ _ (w.heap.size + 1) _ _ rfl (arr_stored Y4.out)) rfl ?_
    rw [e1, e2, e3]
    exact ⟨_, rfl, arr_zero _ _ _, below_setCell (below_setCell B4.out (by omega) _ _) (by omega) _ _⟩
  case pos =>
  obtain ⟨k, rfl, hkn, hv⟩ := liveB_at ll
  have fk := (OK.out.2.2.2.2.1 k hkn).2 hv
  have tw := OK.out.2.2.1
  have eat : atC n E (k : Int) = E k := by unfold atC; rw [if_pos (by omega)]; simp
  obtain ⟨F, hF⟩ : ∃ F : Nat, (E k).f = (F : Int) := ⟨(E k).f.toNat, by omega⟩
  obtain ⟨L, hL⟩ : ∃ L : Nat, (E k).l = (L : Int) := ⟨(E k).l.toNat, by omega⟩
  have WD : wds W (E k) = (W.drop F).take L := by unfold wds; rw [hF, hL]; simp
  obtain ⟨g1, g2, g3⟩ := aoO W t n E k hk ll
  rw [WD] at g1 g2 g3
  rw [hF, hL] at fk
  rw [ll, eat, hF, hL, hv]
  have GG : Hid (gB W t n E k = aoB ((W.drop F).take L) ∧ gS W t n E k = aoS ((W.drop F).take L) ∧ gD W t n E k = aoD ((W.drop F).take L)) := ⟨g1, g2, g3⟩
  clear g1 g2 g3 WD
  generalize hC : w2.alloc (.cells #[.int .i64 (F : Int), .int .i64 (L : Int), .bool true] 58) = w3
  have B23 : Below w2.heap.size w2 w3 := by rw [← hC]; exact bAlloc (Below.refl _ _) _
  have B3 : Hid (Below w.heap.size w w3) := bTrans B2.out B23
  have X3 : Hid (Box3 w3 w.heap.size (.slice wa W.length wc) (.int .i64 t) (.slice ca n cc) 30) := X2.out.keep B23
  have Y3 : Hid (Box w3 (w.heap.size + 1) (.slice none 0 0) (.slice none 0 0) 45) := Y2.out.keep B23
  have Q3 : Hid (Box3 w3 w2.heap.size (.int .i64 (F : Int)) (.int .i64 (L : Int)) (.bool true) 58) := by rw [← hC]; exact box3_new _ _ _ _ _
  have x0 := X3.out.c0
  have x1 := X3.out.c1
  have x2 := X3.out.c2
  have q0 := Q3.out.c0
  have q1 := Q3.out.c1
  have q2 := Q3.out.c2
  clear B23
  go_wp2_with fail
  clear hC x0 x1 x2 q0 q1 q2
  refine (wordsOf_impl (F := F) (L := L) (HH.out.keep B3.out) true (by omega) hW).mono ?_
  rintro r w4 ⟨a4, c4, rfl, hc4, hI, hb⟩
  have I4 : Hid (Ints w4 a4 ((W.drop F).take L)) := hI
  have B4 : Hid (Below w.heap.size w w4) := bTrans B3.out hb
  have Y4 : Hid (Box w4 (w.heap.size + 1) (.slice none 0 0) (.slice none 0 0) 45) := Y3.out.keep hb
  have lws : ((W.drop F).take L).length = L := by simp; omega
  clear hI hb
  go_wp2_with fail
  have AW := arrayOfWords_impl (c := c4) I4.out (by rw [lws]; exact hc4) (by rw [lws]; omega) (by rw [lws]; omega)
  rw [lws] at AW
  refine AW.mono ?_
  rintro r w5 ⟨v5, rfl, hA, hb⟩
  obtain ⟨ax, cx, ay, cy, rfl, _⟩ := hA.arrI
  have A5 : Hid (Arr w4.heap.size w5.heap.size w5 (.agg #[.slice ax (aoS ((W.drop F).take L)).length cx, .slice ay (aoD ((W.drop F).take L)).length cy]) (aoS ((W.drop F).take L)) (aoD ((W.drop F).take L))) := hA
  have B5 : Hid (Below w.heap.size w w5) := bTrans B4.out hb
  have Y5 : Hid (Box w5 (w.heap.size + 1) (.slice none 0 0) (.slice none 0 0) 45) := Y4.out.keep hb
  have S4 := Y4.out.lt
  have S5 := hb.size
  clear hA hb AW
  have r0 := Y5.out.c0
  have r1 := Y5.out.c1
  have f0 : w5.frozen? ⟨w.heap.size + 1, 0, none⟩ = false := free_at Y5.out 0
  have f1 : w5.frozen? ⟨w.heap.size + 1, 1, none⟩ = false := free_at Y5.out 1
  obtain ⟨g1, g2, g3⟩ := GG.out
  generalize aoS ((W.drop F).take L) = XS at *
  generalize aoD ((W.drop F).take L) = XD at *
  generalize aoB ((W.drop F).take L) = XB at *
  have GX : Hid (gB W t n E k = XB ∧ gS W t n E k = XS ∧ gD W t n E k = XD) := ⟨g1, g2, g3⟩
  clear g1 g2 g3 GG
  go_wp2
  refine bodyPost_ret (results_arr_tmp Try.results54 _ _ (w.heap.size + 1) _ _ rfl (arr_stored Y5.out)) rfl ?_
  obtain ⟨g1, g2, g3⟩ := GX.out
  rw [g1, g2, g3]
  refine ⟨_, rfl, ?_, below_setCell (below_setCell B5.out (by omega) _ _) (by omega) _ _⟩
  exact ((A5.out.setCell S4 _ _).setCell S4 _ _).mono (by omega) (by simp [size_setCell])
end Go.Proofs.Ytfmfppndcbmohaa
