/-
  Several texts, one behind the other: Cuts, SpecScan, ImplScan.
-/
import Derived.Test.YtnkacfgbkfkhdaaGreatY30
import Derived.Test.YtnkacfgbkfkhdaaGreatY29
import Derived.Test.YtnkacfgbkfkhdaaGreatY28
import Derived.Test.YtnkacfgbkfkhdaaGreatY24
namespace Go.Proofs.YtnkacfgbkfkhdaaGreat
open Go.RowKit
set_option linter.unusedVariables false
set_option linter.unusedSimpArgs false
theorem arrsI_sub {w : World} {o off n c m M : Nat} {F : List (List Int)} {a' : Option Addr} {c' : Nat} (h : ArrsI w (.slice (some ⟨o, off, none⟩) n c) F) (hM : M + m ≤ n) (ha : m = 0 ∨ a' = some ⟨o, off + M * 2, none⟩) : ArrsI w (.slice a' m c') ((F.drop (2 * M)).take (2 * m)) := by
  obtain ⟨a, n', c'', e, hF, h⟩ := h
  cases e
  have hl : ((F.drop (2 * M)).take (2 * m)).length = 2 * m := by simp; omega
  refine ⟨a', m, c', rfl, hl, ?_⟩
  rcases ha with h0 | rfl
  · exact .inl h0
  · by_cases h0 : m = 0
    · exact .inl h0
    · rcases h with h | ⟨o', off', xs, e, ho, hx, hj⟩
      · omega
      · cases e
        refine .inr ⟨o, off + M * 2, (xs.drop (2 * M)).take (2 * m), rfl, ho, by simp; omega, fun j hj' => ?_⟩
        have hj2 : j < 2 * m := by simp at hj'; omega
        obtain ⟨q1, q2⟩ := hj (2 * M + j) (by omega)
        have e1 : ((xs.drop (2 * M)).take (2 * m)).getD j undef = xs.getD (2 * M + j) undef := by simp [List.getD, List.getElem?_take_of_lt hj2]
        have e2 : ((F.drop (2 * M)).take (2 * m)).getD j [] = F.getD (2 * M + j) [] := by simp [List.getD, List.getElem?_take_of_lt hj2]
        rw [e1, e2]
        refine ⟨?_, q2⟩
        rw [show off + M * 2 + j = off + (2 * M + j) from by omega]
        exact q1
/-- A list of arrays from one on. -/
theorem arrs_from {w : World} {a : Option Addr} {n c M : Nat} {F : List (List Int)} (h : ArrsI w (.slice a n c) F) (hc : n ≤ c) (hM : M ≤ n) :
    ∃ a' c', (∀ W, (Instr.slice 48 (.slice a n c) (some (.int .i64 (M : Int))) none none).run Tryz.prog W = .ok (.slice a' (n - M) c') W) ∧ ArrsI w (.slice a' (n - M) c') ((F.drop (2 * M)).take (2 * (n - M))) := by
  have hrun : ∀ W, (Instr.slice 48 (.slice a n c) (some (.int .i64 (M : Int))) none none).run Tryz.prog W = .ok (sliced a M n c 2) W := by
    intro W
    have hs : (sizeOf 26).run Tryz.prog W = .ok 2 W := by kernel_rfl
    have he : Tryz.prog.elem 48 = 26 := by kernel_rfl
    rw [run_slice_l (P := Tryz.prog) (w := W) 48 a n c (by rw [he]; exact Tryz.underlying48) .i64 (M : Int) (by omega) (by omega), he, hs]
    simp [Result.andThen]
  refine ⟨_, _, hrun, ?_⟩
  by_cases h0 : n - M = 0
  · rw [h0]
    exact ⟨_, 0, _, rfl, by simp, .inl rfl⟩
  · obtain ⟨o, off, _, _, rfl, _⟩ := h.at (k := M) (by omega)
    refine arrsI_sub h (by omega) (.inr ?_)
    rw [if_neg (by omega)]
    simp [Addr.add]
/-- A list of arrays up to one. -/
theorem arrs_upto {w : World} {a : Option Addr} {n c m : Nat} {F : List (List Int)} (h : ArrsI w (.slice a n c) F) (hc : n ≤ c) (hm : m ≤ n) :
    ∃ a' c', (∀ W, (Instr.slice 48 (.slice a n c) none (some (.int .i64 (m : Int))) none).run Tryz.prog W = .ok (.slice a' m c') W) ∧ ArrsI w (.slice a' m c') ((F.drop 0).take (2 * m)) := by
  have hrun : ∀ W, (Instr.slice 48 (.slice a n c) none (some (.int .i64 (m : Int))) none).run Tryz.prog W = .ok (sliced a 0 m c 2) W := by
    intro W
    have hs : (sizeOf 26).run Tryz.prog W = .ok 2 W := by kernel_rfl
    have he : Tryz.prog.elem 48 = 26 := by kernel_rfl
    rw [run_slice_h (P := Tryz.prog) (w := W) 48 a n c (by rw [he]; exact Tryz.underlying48) .i64 (m : Int) (by omega) (by omega), he, hs]
    simp [Result.andThen]
  refine ⟨_, _, hrun, ?_⟩
  by_cases h0 : m = 0
  · subst h0
    exact ⟨_, 0, _, rfl, by simp, .inl rfl⟩
  · obtain ⟨o, off, _, _, rfl, _⟩ := h.at (k := 0) (by omega)
    have := arrsI_sub (M := 0) (m := m) (a' := some ⟨o, off, none⟩) (c' := c - 0) h (by omega) (.inr (by simp))
    simpa [sliced, Addr.add] using this
theorem vec_ok {t e : List Int} (h : arrOk t e = true) : arrOk (vecS t e) e = true ∧ vecS t e ≠ [] := by
  unfold vecS
  by_cases ht : t = []
  · subst ht
    rw [if_pos rfl]
    have z := arrOk_size h
    rw [sizeV_0'] at z
    have hl : e.length = 1 := by omega
    refine ⟨?_, by simp⟩
    have h2 : e.all ok = true := by
      unfold arrOk at h
      simp only [Bool.and_eq_true] at h
      exact h.2
    unfold arrOk
    rw [h2, hl]
    decide
  · rw [if_neg ht]; exact ⟨h, ht⟩
end Go.Proofs.YtnkacfgbkfkhdaaGreat
namespace Go.Proofs.YtnkacfgbkfkhdaaGreat
open Go.RowKit
set_option linter.unusedVariables false
set_option linter.unusedSimpArgs false
/-- One array of one's own more. -/
theorem RI.grow {B : Nat} {w0 wr w2 : World} {v : Value} {k : Nat} {xs : List Value} {F : List (List Int)} {x y : Value} (h : RI B w0 wr v k xs F) (hk : k < 1000000) (hb : Below wr.heap.size wr w2)
    (ha : Arr wr.heap.size w2.heap.size w2 (.agg #[x, y]) (F.getD (2 * k) []) (F.getD (2 * k + 1) [])) :
    ∃ a' c' w', (Builtin.append_ #[48, 48] 48 #[v, .slice (some ⟨w2.heap.size, 0, none⟩) 1 1]).run Tryz.prog (w2.alloc (.cells #[x, y] 26)) = .ok (.slice a' (k + 1) c') w' ∧ RI B w0 w' (.slice a' (k + 1) c') (k + 1) (xs ++ [x, y]) F := by
  obtain ⟨i, hq, z1, z2, z3⟩ : ∃ i, Tryz.prog.info? 26 = some i ∧ i.zero = some (.agg #[.slice none 0 0, .slice none 0 0]) ∧ i.size = 2 ∧ i.bytes = 48 := by
    have hi := info_arr
    cases hq : Tryz.prog.info? 26 with
    | none => rw [hq] at hi; cases hi
    | some i => rw [hq] at hi; simp at hi; exact ⟨i, rfl, hi.1, hi.2.1, hi.2.2⟩
  obtain ⟨x', y', e', px, py, hap⟩ := ha
  obtain ⟨rfl, rfl⟩ : x = x' ∧ y = y' := by cases e'; exact ⟨rfl, rfl⟩
  obtain ⟨a1, c1, ex, _⟩ := px.ints
  obtain ⟨a2, c2, ey, _⟩ := py.ints
  have hz := hb.size
  have hB := h.size
  have hb' : Below wr.heap.size wr (w2.alloc (.cells #[x, y] 26)) := bAlloc hb _
  obtain ⟨g, cap, w', hr, h2, h3, h4, h5⟩ := run_append_lies (P := Tryz.prog) (w := w2.alloc (.cells #[x, y] 26)) 48 48 B 26 i _ 2 48 Tryz.underlying48 hq z1 z2 z3 rfl (by decide) v k xs (ownsRow_keep h.own hb') ⟨w2.heap.size, 0, none⟩ 1 1 [x, y] rfl (World.news_of_block (cs := #[x, y]) (heap_alloc_new w2 _)) (by rw [ex, ey]; simp [Value.oneCell']) (by decide) (by unfold maxLen; omega) (by omega) (by simp; omega) _ rfl
  refine ⟨_, _, w', hr, h.step hb' ?_ ?_ hap h2 h3 h4⟩
  · exact (px.keep (bAlloc (Below.refl _ _) _)).mono (Nat.le_refl _) (by simp)
  · exact (py.keep (bAlloc (Below.refl _ _) _)).mono (Nat.le_refl _) (by simp)
theorem ri_new (w : World) (F : List (List Int)) : RI w.heap.size w (w.alloc (.cells #[] 26)) (.slice (some ⟨w.heap.size, 0, none⟩) 0 0) 0 [] F :=
  ⟨⟨rfl, .inr ⟨w.heap.size, 0, #[], rfl, Nat.le_refl _, heap_alloc_new w _, Nat.le_refl _, by unfold maxLen; omega, rfl, rfl⟩⟩, fun j hj => by omega, fun i j _ hj => by omega, fun j hj => by omega, bAlloc (Below.refl _ _) _, by simp⟩
theorem catF_flat (t : List Int) (f : Nat → List Int) (n : Nat) : catF ((List.range n).flatMap (fun i => [t, f i])) n = (List.range n).flatMap f := by
  unfold catF
  rw [List.flatMap_def, List.flatMap_def]
  congr 1
  apply List.map_congr_left
  intro i hi
  exact flat2_odd (fun _ => t) f (by simpa using hi)
theorem scanR_bad {g : Int} {s d : List Int} (h : ¬ (arrOk s d = true ∧ sign2 g = true)) : scanR g s d = (1, [], []) := by
  unfold scanR; rw [show scanC g s d = 1 from by unfold scanC; rw [if_neg h]]; rfl
theorem scanR_nil {g : Int} {d : List Int} (h : arrOk [] d = true ∧ sign2 g = true) : scanR g [] d = (0, [], d) := by
  unfold scanR; rw [show scanC g [] d = 0 from by unfold scanC; rw [if_pos h, if_pos rfl]]; unfold scanD; rw [if_pos rfl]; rfl
theorem scanR_told {g : Int} {s d : List Int} (h : arrOk s d = true ∧ sign2 g = true) (hs : s ≠ []) : scanR g s d = mkR (firstC (fun i => (scanK g s d i).1) (rowsN s)) s ((List.range (rowsN s)).flatMap (fun i => (scanK g s d i).2)) := by
  unfold scanR scanC scanD; rw [if_pos h, if_neg hs, if_neg hs]
theorem scanK_len {g : Int} {s d : List Int} (ho : arrOk s d = true) (hs : s ≠ []) (i : Nat) : (scanK g s d i).2.length ≤ 300 := redL_len (take_ok (rowsD_ok ho hs) _)
end Go.Proofs.YtnkacfgbkfkhdaaGreat
namespace Go.Proofs.YtnkacfgbkfkhdaaGreat
open Go.RowKit
set_option linter.unusedVariables false
set_option linter.unusedSimpArgs false
set_option maxHeartbeats 1000000 in
/-- reducing. -/
theorem reducing_impl (g : Int) (w : World) :
    Calls Tryz.prog 40 #[.int .i64 g] w fun r w' => r = .returned (.func (.func 68) #[] #[.pointer (some ⟨w.heap.size, 0, none⟩)]) ∧ w' = w.alloc (.cells #[.int .i64 g] 3) := by
  go_enter Tryz.func40, Tryz.ntmps40
  go_wp2
  go_ret
  exact ⟨rfl, rfl⟩
set_option maxRecDepth 20000 in
set_option maxHeartbeats 4000000 in
/-- alongRows, whatever the operator is. -/
theorem along_impl {g C : Int} {s d S D : List Int} {w : World} {v p : Value} {f : Nat} (hE : ∀ (args : Array Value) (w : World), (callFunc f args).run Tryz.prog w = .ok (.enter f args) w) (hA : ArrI w v s d) (hs : s.length ≤ 1048576) (hd : d.length ≤ 1048576)
    (hbad : ¬ (sign2 g = true ∧ arrOk s d = true) → C = 1 ∧ S = [] ∧ D = []) (hnil : sign2 g = true ∧ arrOk s d = true → s = [] → C = 0 ∧ S = [] ∧ D = d)
    (hV : ∀ (W : World) (u : Value), sign2 g = true → arrOk s d = true → s ≠ [] → Below w.heap.size w W → ArrI W u s d → Calls Tryz.prog f #[u, p] W fun r W' => ∃ v', r = .returned (.tuple #[v', .int .i64 C]) ∧ Arr W.heap.size W'.heap.size W' v' S D ∧ Below W.heap.size W W') :
    Calls Tryz.prog 39 #[.int .i64 g, v, .func (.func f) #[] #[p]] w fun r w' => ∃ v', r = .returned (.tuple #[v', .int .i64 C]) ∧ Arr w.heap.size w'.heap.size w' v' S D ∧ Below w.heap.size w w' := by
  have H : Hid (ArrI w v s d) := hA
  obtain ⟨a, c, b, e, rfl, _, _, _, _⟩ := hA
  have HD : Hid (d.length ≤ 1048576) := hd
  have HS : Hid (s.length ≤ 1048576) := hs
  have HV : Hid (∀ (W : World) (u : Value), sign2 g = true → arrOk s d = true → s ≠ [] → Below w.heap.size w W → ArrI W u s d → Calls Tryz.prog f #[u, p] W fun r W' => ∃ v', r = .returned (.tuple #[v', .int .i64 C]) ∧ Arr W.heap.size W'.heap.size W' v' S D ∧ Below W.heap.size W W') := hV
  have Hbad : Hid (¬ (sign2 g = true ∧ arrOk s d = true) → C = 1 ∧ S = [] ∧ D = []) := hbad
  have Hnil : Hid (sign2 g = true ∧ arrOk s d = true → s = [] → C = 0 ∧ S = [] ∧ D = d) := hnil
  clear hV hbad hnil hd hs
  obtain ⟨W1, hW1⟩ : ∃ W1, W1 = (w.alloc (.cells #[.slice a s.length c, .slice b d.length e] 26)).alloc (.cells #[.slice none 0 0, .slice none 0 0] 26) := ⟨_, rfl⟩
  have BW1 : Hid (Below w.heap.size w W1) := by rw [hW1]; exact bAlloc (bAlloc (Below.refl _ _) _) _
  have X1 : Hid (Box W1 w.heap.size (.slice a s.length c) (.slice b d.length e) 26) := by rw [hW1]; exact heap_alloc2_old w _ _
  have Y1 : Hid (Box W1 (w.heap.size + 1) (.slice none 0 0) (.slice none 0 0) 26) := by rw [hW1]; exact heap_alloc2_new w _ _
  go_enter Tryz.func39, Tryz.ntmps39
  go_wp2_with fail
  rw [← hW1]
  clear hW1
  refine (knownTwo_impl g _).mono ?_
  rintro r w2 ⟨rfl, hb⟩
  have B2 : Hid (Below w.heap.size w w2) := bTrans BW1.out hb
  have X2 : Hid (Box w2 w.heap.size (.slice a s.length c) (.slice b d.length e) 26) := X1.out.keep hb
  have Y2 : Hid (Box w2 (w.heap.size + 1) (.slice none 0 0) (.slice none 0 0) 26) := Y1.out.keep hb
  clear hb
  cases hg : sign2 g with
  | false =>
    obtain ⟨rfl, rfl, rfl⟩ := Hbad.out (by rw [hg]; simp)
    have y3 := Y2.out.c0
    have y4 := Y2.out.c1
    have f0 := free_at Y2.out 0
    have f1 := free_at Y2.out 1
    have HRR : Hid (_ = _) := arr_stored (x' := .slice none 0 0) (y' := .slice none 0 0) Y2.out
    go_wp2
    refine bodyPost_ret (results_arr_tmp Tryz.results39 _ _ (w.heap.size + 1) _ _ rfl HRR.out) rfl ?_
    exact ⟨_, rfl, arr_zero _ _ _, below_setCell (below_setCell B2.out (by omega) _ _) (by omega) _ _⟩
  | true =>
    have HG : Hid (sign2 g = true) := hg
    have x0 := X2.out.c0
    have x1 := X2.out.c1
    clear hg
    go_wp2_with fail
    refine (arrOk_impl (H.out.keep B2.out) HD.out).mono ?_
    rintro r w3 ⟨rfl, hb⟩
    have B3 : Hid (Below w.heap.size w w3) := bTrans B2.out hb
    have X3 : Hid (Box w3 w.heap.size (.slice a s.length c) (.slice b d.length e) 26) := X2.out.keep hb
    have Y3 : Hid (Box w3 (w.heap.size + 1) (.slice none 0 0) (.slice none 0 0) 26) := Y2.out.keep hb
    clear hb x0 x1
    cases ho : arrOk s d with
    | false =>
      obtain ⟨rfl, rfl, rfl⟩ := Hbad.out (by rw [ho]; simp)
      have y3 := Y3.out.c0
      have y4 := Y3.out.c1
      have f0 := free_at Y3.out 0
      have f1 := free_at Y3.out 1
      have HRR : Hid (_ = _) := arr_stored (x' := .slice none 0 0) (y' := .slice none 0 0) Y3.out
      go_wp2
      refine bodyPost_ret (results_arr_tmp Tryz.results39 _ _ (w.heap.size + 1) _ _ rfl HRR.out) rfl ?_
      exact ⟨_, rfl, arr_zero _ _ _, below_setCell (below_setCell B3.out (by omega) _ _) (by omega) _ _⟩
    | true =>
      have HO : Hid (arrOk s d = true) := ho
      have L3 : Hid (w.heap.size + 1 < w3.heap.size) := Y3.out.lt
      have x0 := X3.out.c0
      have x1 := X3.out.c1
      clear ho
      by_cases hs0 : s = []
      · obtain ⟨rfl, rfl, rfl⟩ := Hnil.out ⟨HG.out, HO.out⟩ hs0
        subst hs0
        have hl0 : (((0 : Nat) : Int) == 0) = true := rfl
        simp only [List.length_nil] at x0
        go_wp2_with fail
        refine (copyOf_impl (H.out.keep B3.out) HS.out HD.out).mono ?_
        rintro r w4 ⟨v4, rfl, ha, hb⟩
        obtain ⟨xa, xc, ya, yc, rfl, _, _, _, _⟩ := ha.arrI
        have HA : Hid (Arr w3.heap.size w4.heap.size w4 (.agg #[.slice xa 0 xc, .slice ya D.length yc]) [] D) := ha
        have B4 : Hid (Below w.heap.size w w4) := bTrans B3.out hb
        have Y4 : Hid (Box w4 (w.heap.size + 1) (.slice none 0 0) (.slice none 0 0) 26) := Y3.out.keep hb
        clear ha hb x0 x1
        simp only [List.length_nil]
        have y3 := Y4.out.c0
        have y4 := Y4.out.c1
        have f0 := free_at Y4.out 0
        have f1 := free_at Y4.out 1
        have HRR : Hid (_ = _) := arr_stored (x' := .slice xa 0 xc) (y' := .slice ya D.length yc) Y4.out
        go_wp2
        refine bodyPost_ret (results_arr_tmp Tryz.results39 _ _ (w.heap.size + 1) _ _ rfl HRR.out) rfl ?_
        refine ⟨_, rfl, ?_, below_setCell (below_setCell B4.out (by omega) _ _) (by omega) _ _⟩
        have L := L3.out
        exact ((HA.out.setCell (by omega) _ _).setCell (by omega) _ _).mono (by omega) (by simp only [size_setCell]; omega)
      · have n1 : ((s.length : Int) == 0) = false := by
          have := List.length_pos_iff.2 hs0
          simp; omega
        have HS0 : Hid (s ≠ []) := hs0
        clear hs0
        go_wp2_with fail
        refine (HV.out _ _ HG.out HO.out HS0.out B3.out (H.out.keep B3.out)).mono ?_
        rintro r w4 ⟨v4, rfl, ha, hb⟩
        obtain ⟨xa, xc, ya, yc, rfl, _, _, _, _⟩ := ha.arrI
        have HA : Hid (Arr w3.heap.size w4.heap.size w4 (.agg #[.slice xa S.length xc, .slice ya D.length yc]) S D) := ha
        have B4 : Hid (Below w.heap.size w w4) := bTrans B3.out hb
        have Y4 : Hid (Box w4 (w.heap.size + 1) (.slice none 0 0) (.slice none 0 0) 26) := Y3.out.keep hb
        clear ha hb x0 x1
        have y3 := Y4.out.c0
        have y4 := Y4.out.c1
        have f0 := free_at Y4.out 0
        have f1 := free_at Y4.out 1
        have HRR : Hid (_ = _) := arr_stored (x' := .slice xa S.length xc) (y' := .slice ya D.length yc) Y4.out
        go_wp2
        refine bodyPost_ret (results_arr_tmp Tryz.results39 _ _ (w.heap.size + 1) _ _ rfl HRR.out) rfl ?_
        refine ⟨_, rfl, ?_, below_setCell (below_setCell B4.out (by omega) _ _) (by omega) _ _⟩
        have L := L3.out
        exact ((HA.out.setCell (by omega) _ _).setCell (by omega) _ _).mono (by omega) (by simp only [size_setCell]; omega)
end Go.Proofs.YtnkacfgbkfkhdaaGreat
