/-
  Walks: the specification's DrawEachTwo.
-/
import Derived.Test.YtommbklaljdcmacDrawTwoA
namespace Go.Proofs.Ytommbklaljdcmac
open Go.RowKit
set_option linter.unusedVariables false
set_option linter.unusedSimpArgs false
/-- A result in a slot, and two arrays in cells behind it. -/
theorem results_tmp_arr2 {fn : Func} {t p q : Tmp} (h : fn.results = #[.tmp t, .cell p 26, .cell q 26]) (tmps : Array Value) (w : World) (g k : Nat) (x y x' y' : Value) (hp : tmps.getD p undef = .pointer (some ⟨g, 0, none⟩)) (hq : tmps.getD q undef = .pointer (some ⟨k, 0, none⟩))
    (hg : w.heap[g]? = some (.cells #[x, y] 26 (0, 0))) (hk : w.heap[k]? = some (.cells #[x', y'] 26 (0, 0))) : (results fn tmps).run Try.prog w = .ok (.tuple #[tmps.getD t undef, .agg #[x, y], .agg #[x', y']]) w := by
  have e : (asAddr (.pointer (some ⟨g, 0, none⟩))).run Try.prog w = .ok ⟨g, 0, none⟩ w := by simp [asAddr]
  have e' : (asAddr (.pointer (some ⟨k, 0, none⟩))).run Try.prog w = .ok ⟨k, 0, none⟩ w := by simp [asAddr]
  have l := arr_loaded hg
  have l' := arr_loaded hk
  have hp' : tmps[p]?.getD undef = .pointer (some ⟨g, 0, none⟩) := by simpa using hp
  have hq' : tmps[q]?.getD undef = .pointer (some ⟨k, 0, none⟩) := by simpa using hq
  simp [results, h, hp', hq', e, e', l, l', Sem.run_bind, Result.andThen]
set_option maxRecDepth 20000 in
set_option maxHeartbeats 4000000 in
/-- DrawEachTwo. -/
theorem drawEachTwo_spec {w : World} {a : Option Addr} {len cap : Nat} (hs : Src w.heap.size w a len) (hb20 : len ≤ 1048576) :
    Calls Try.prog 6 #[.slice a len cap] w fun e w' => ∃ x v u s d t f, e = .returned (.tuple #[.int .i64 x, v, u]) ∧ Arr w.heap.size w'.heap.size w' v s d ∧ Arr w.heap.size w'.heap.size w' u t f ∧ (s.length ≤ 4 ∧ d.length ≤ 301 ∧ t.length ≤ 4 ∧ f.length ≤ 301) ∧ Below w.heap.size w w' := by
  obtain ⟨W0, hW0⟩ : ∃ x, x = (w.alloc (.cells #[.slice none 0 0, .slice none 0 0] 26)).alloc (.cells #[.slice none 0 0, .slice none 0 0] 26) := ⟨_, rfl⟩
  have HB0 : Hid (Below w.heap.size w W0) := by rw [hW0]; exact bAlloc (bAlloc (Below.refl _ _) _) _
  have HS0 : Hid (Src w.heap.size w a len) := hs
  have HS : Hid (Src W0.heap.size W0 a len) := srcKeep hs HB0.out
  have RA0 : Hid (Box W0 w.heap.size (.slice none 0 0) (.slice none 0 0) 26) := by rw [hW0]; exact heap_alloc2_old w _ _
  have RB0 : Hid (Box W0 (w.heap.size + 1) (.slice none 0 0) (.slice none 0 0) 26) := by rw [hW0]; exact heap_alloc2_new w _ _
  have SW0 : W0.heap.size = w.heap.size + 2 := by rw [hW0]; simp
  clear hs
  go_enter Try.func6, Try.ntmps6
  go_wp2_with fail
  rw [← hW0]
  refine (drawTwoA_spec HS.out hb20).mono ?_
  rintro r w1 ⟨v, u, s, d, t, f, rfl, hA, hC, hl, hb⟩
  obtain ⟨xa, xc, ya, yc, rfl, _, _, _, _⟩ := hA.arrI
  obtain ⟨ua, uc, va, vc, rfl, _, _, _, _⟩ := hC.arrI
  have A1 : Hid (Arr W0.heap.size w1.heap.size w1 (.agg #[.slice xa s.length xc, .slice ya d.length yc]) s d) := hA
  have C1 : Hid (Arr W0.heap.size w1.heap.size w1 (.agg #[.slice ua t.length uc, .slice va f.length vc]) t f) := hC
  have HB1 : Hid (Below w.heap.size w w1) := bTrans HB0.out hb
  have RA1 : Hid (Box w1 w.heap.size (.slice none 0 0) (.slice none 0 0) 26) := RA0.out.keep hb
  have RB1 : Hid (Box w1 (w.heap.size + 1) (.slice none 0 0) (.slice none 0 0) 26) := RB0.out.keep hb
  have HL : Hid (s.length ≤ 4 ∧ d.length ≤ 301 ∧ t.length ≤ 4 ∧ f.length ≤ 301) := hl
  have S1 : Hid (W0.heap.size ≤ w1.heap.size) := hb.size
  have SS1 := S1.out
  clear hb hA hC hl hW0 RA0 RB0
  go_wp2_with fail
  generalize hW : (w1.alloc (.cells #[.slice xa s.length xc, .slice ya d.length yc] 26)).alloc (.cells #[.slice ua t.length uc, .slice va f.length vc] 26) = W2
  have BW2 : Hid (Below w1.heap.size w1 W2) := by rw [← hW]; exact bAlloc (bAlloc (Below.refl _ _) _) _
  have ZA2 : Hid (Box W2 w1.heap.size (.slice xa s.length xc) (.slice ya d.length yc) 26) := by rw [← hW]; exact heap_alloc2_old w1 _ _
  have ZB2 : Hid (Box W2 (w1.heap.size + 1) (.slice ua t.length uc) (.slice va f.length vc) 26) := by rw [← hW]; exact heap_alloc2_new w1 _ _
  clear hW
  have HS2 : Hid (Src W2.heap.size W2 a len) := srcKeep HS0.out (bTrans HB1.out BW2.out)
  refine (new_spec HS2.out hb20).mono ?_
  rintro r w3 ⟨g, rfl, hb, hd⟩
  have ZA3 : Hid (Box w3 w1.heap.size (.slice xa s.length xc) (.slice ya d.length yc) 26) := ZA2.out.keep hb
  have ZB3 : Hid (Box w3 (w1.heap.size + 1) (.slice ua t.length uc) (.slice va f.length vc) 26) := ZB2.out.keep hb
  have RA3 : Hid (Box w3 w.heap.size (.slice none 0 0) (.slice none 0 0) 26) := (RA1.out.keep BW2.out).keep hb
  have RB3 : Hid (Box w3 (w.heap.size + 1) (.slice none 0 0) (.slice none 0 0) 26) := (RB1.out.keep BW2.out).keep hb
  have A3 : Hid (Arr W0.heap.size w1.heap.size w3 (.agg #[.slice xa s.length xc, .slice ya d.length yc]) s d) := (A1.out.keep BW2.out).keep hb
  have C3 : Hid (Arr W0.heap.size w1.heap.size w3 (.agg #[.slice ua t.length uc, .slice va f.length vc]) t f) := (C1.out.keep BW2.out).keep hb
  have HB3 : Hid (Below w.heap.size w w3) := bTrans (bTrans HB1.out BW2.out) hb
  have HD3 : Hid (DrawOk W2.heap.size g w3) := hd
  have S3 : Hid (w1.heap.size + 1 < W2.heap.size) := ZB2.out.lt
  have hg3 : W2.heap.size ≤ g := hd.1
  have S4 : Hid (W2.heap.size ≤ w3.heap.size) := hb.size
  clear hb hd
  have SS3 := S3.out
  have SS4 := S4.out
  have p0 := ZA3.out.c0
  have p1 := ZA3.out.c1
  have p2 := ZB3.out.c0
  have p3 := ZB3.out.c1
  have HDr : Hid (DrawOk W2.heap.size g w3.drew) := HD3.out.keep ((Below.refl W2.heap.size w3).drew) rfl
  go_wp2_with fail
  go_region_held3 (fun w' => w'.cell? ⟨w1.heap.size, 0, none⟩ = some (.slice xa s.length xc) ∧ w'.cell? ⟨w1.heap.size, 1, none⟩ = some (.slice ya d.length yc) ∧ w'.cell? ⟨w1.heap.size + 1, 0, none⟩ = some (.slice ua t.length uc) ∧ w'.cell? ⟨w1.heap.size + 1, 1, none⟩ = some (.slice va f.length vc))
    (first | (refine ⟨?_, ?_, ?_, ?_⟩ <;> (first | with_reducible assumption | simp only [*])) | exact ⟨p0, p1, p2, p3⟩)
    (first
      | (go_at_call 21; refine (sign_spec HDr.out).mono ?_; rintro r w5 ⟨x, rfl, hb5, hd5⟩; have B5 : Hid (But g w3 w5) := But.trans ((But.refl g w3).drewN 1) hb5; have ZA5 : Hid (Box w5 w1.heap.size (.slice xa s.length xc) (.slice ya d.length yc) 26) := boxBut ZA3.out B5.out (by omega); have ZB5 : Hid (Box w5 (w1.heap.size + 1) (.slice ua t.length uc) (.slice va f.length vc) 26) := boxBut ZB3.out B5.out (by omega); have RA5 : Hid (Box w5 w.heap.size (.slice none 0 0) (.slice none 0 0) 26) := boxBut RA3.out B5.out (by omega); have RB5 : Hid (Box w5 (w.heap.size + 1) (.slice none 0 0) (.slice none 0 0) 26) := boxBut RB3.out B5.out (by omega); have y0 := ZA5.out.c0; have y1 := ZA5.out.c1; have y2 := ZB5.out.c0; have y3 := ZB5.out.c1; have r0 := RA5.out.c0; have r1 := RA5.out.c1; have r2 := RB5.out.c0; have r3 := RB5.out.c1; have f0 : w5.frozen? ⟨w.heap.size, 0, none⟩ = false := free_at RA5.out 0; have f1 : w5.frozen? ⟨w.heap.size, 1, none⟩ = false := free_at RA5.out 1; have f2 : w5.frozen? ⟨w.heap.size + 1, 0, none⟩ = false := free_at RB5.out 0; have f3 : w5.frozen? ⟨w.heap.size + 1, 1, none⟩ = false := free_at RB5.out 1; have A5 : Hid (Arr (w.heap.size + 2) w5.heap.size w5 (.agg #[.slice xa s.length xc, .slice ya d.length yc]) s d) := ((A3.out.but B5.out (.inr (by omega))).mono (by omega) (by have := B5.out.size; omega)); have C5 : Hid (Arr (w.heap.size + 2) w5.heap.size w5 (.agg #[.slice ua t.length uc, .slice va f.length vc]) t f) := ((C3.out.but B5.out (.inr (by omega))).mono (by omega) (by have := B5.out.size; omega)); have HB5 : Hid (Below w.heap.size w w5) := HB3.out.trans (B5.out.below (by omega) HB3.out.size); have s0 := (fun (x y : Value) => ((ZA5.out.win (win_setCell w5 w.heap.size 0 x) (.inr (by omega))).win (win_setCell _ w.heap.size 1 y) (.inr (by omega))).c0); have s1 := (fun (x y : Value) => ((ZA5.out.win (win_setCell w5 w.heap.size 0 x) (.inr (by omega))).win (win_setCell _ w.heap.size 1 y) (.inr (by omega))).c1); have s2 := (fun (x y : Value) => ((ZB5.out.win (win_setCell w5 w.heap.size 0 x) (.inr (by omega))).win (win_setCell _ w.heap.size 1 y) (.inr (by omega))).c0); have s3 := (fun (x y : Value) => ((ZB5.out.win (win_setCell w5 w.heap.size 0 x) (.inr (by omega))).win (win_setCell _ w.heap.size 1 y) (.inr (by omega))).c1); have q0 := (fun (x y x' y' : Value) => ((((ZA5.out.win (win_setCell w5 w.heap.size 0 x) (.inr (by omega))).win (win_setCell _ w.heap.size 1 y) (.inr (by omega))).win (win_setCell _ (w.heap.size + 1) 0 x') (.inr (by omega))).win (win_setCell _ (w.heap.size + 1) 1 y') (.inr (by omega))).c0); have q1 := (fun (x y x' y' : Value) => ((((ZA5.out.win (win_setCell w5 w.heap.size 0 x) (.inr (by omega))).win (win_setCell _ w.heap.size 1 y) (.inr (by omega))).win (win_setCell _ (w.heap.size + 1) 0 x') (.inr (by omega))).win (win_setCell _ (w.heap.size + 1) 1 y') (.inr (by omega))).c1); have q2 := (fun (x y x' y' : Value) => ((((ZB5.out.win (win_setCell w5 w.heap.size 0 x) (.inr (by omega))).win (win_setCell _ w.heap.size 1 y) (.inr (by omega))).win (win_setCell _ (w.heap.size + 1) 0 x') (.inr (by omega))).win (win_setCell _ (w.heap.size + 1) 1 y') (.inr (by omega))).c0); have q3 := (fun (x y x' y' : Value) => ((((ZB5.out.win (win_setCell w5 w.heap.size 0 x) (.inr (by omega))).win (win_setCell _ w.heap.size 1 y) (.inr (by omega))).win (win_setCell _ (w.heap.size + 1) 0 x') (.inr (by omega))).win (win_setCell _ (w.heap.size + 1) 1 y') (.inr (by omega))).c1); clear hb5 hd5))
  all_goals
    have FX : Hid (_ ∧ _ ∧ _ ∧ _ ∧ _) := two_end RA5.out RB5.out A5.out C5.out HB5.out
    go_wp2
    refine bodyPost_ret (results_tmp_arr2 rfl _ _ w.heap.size (w.heap.size + 1) _ _ _ _ rfl rfl FX.out.1 FX.out.2.1) rfl ?_
    exact ⟨_, _, _, _, _, _, _, rfl, FX.out.2.2.1, FX.out.2.2.2.1, HL.out, FX.out.2.2.2.2⟩
end Go.Proofs.Ytommbklaljdcmac
