/-
  Several texts, one behind the other: Cuts, SpecScan, SpecCell.
-/
import Derived.Test.YtbmkfmppcojcgaaY18
import Derived.Test.YtbmkfmppcojcgaaY17
import Derived.Test.YtbmkfmppcojcgaaY15
import Derived.Test.YtbmkfmppcojcgaaY12
import Derived.Test.YtbmkfmppcojcgaaY14
import Derived.Test.YtbmkfmppcojcgaaY8
namespace Go.Proofs.Ytbmkfmppcojcgaa
open Go.RowKit
set_option linter.unusedVariables false
set_option linter.unusedSimpArgs false
theorem arrsI_sub {w : World} {o off n c m M : Nat} {F : List (List Int)} {a' : Option Addr} {c' : Nat} (h : ArrsI w (.slice (some ⟨o, off, none⟩) n c) F) (hM : M + m ≤ n) (ha : m = 0 ∨ a' = some ⟨o, off + M * 2, none⟩) : ArrsI w (.slice a' m c') ((F.drop (2 * M)).take (2 * m)) := by
  obtain ⟨a, n', c'', e, hF, h⟩ := h
  cases e
  have hl : ((F.drop (2 * M)).take (2 * m)).length = 2 * m := by simp; omega
  refine ⟨a', m, c', rfl, hl, ?_⟩
  rcases ha with h0 | rfl
  · exact .inl h0
  · by_cases h0 : m = 0
    · exact .inl h0
    · rcases h with h | ⟨o', off', xs, e, ho, hx, hj⟩
      · omega
      · cases e
        refine .inr ⟨o, off + M * 2, (xs.drop (2 * M)).take (2 * m), rfl, ho, by simp; omega, fun j hj' => ?_⟩
        have hj2 : j < 2 * m := by simp at hj'; omega
        obtain ⟨q1, q2⟩ := hj (2 * M + j) (by omega)
        have e1 : ((xs.drop (2 * M)).take (2 * m)).getD j undef = xs.getD (2 * M + j) undef := by simp [List.getD, List.getElem?_take_of_lt hj2]
        have e2 : ((F.drop (2 * M)).take (2 * m)).getD j [] = F.getD (2 * M + j) [] := by simp [List.getD, List.getElem?_take_of_lt hj2]
        rw [e1, e2]
        refine ⟨?_, q2⟩
        rw [show off + M * 2 + j = off + (2 * M + j) from by omega]
        exact q1
/-- A list of arrays from one on. -/
theorem arrs_from {w : World} {a : Option Addr} {n c M : Nat} {F : List (List Int)} (h : ArrsI w (.slice a n c) F) (hc : n ≤ c) (hM : M ≤ n) :
    ∃ a' c', (∀ W, (Instr.slice 60 (.slice a n c) (some (.int .i64 (M : Int))) none none).run Try.prog W = .ok (.slice a' (n - M) c') W) ∧ ArrsI w (.slice a' (n - M) c') ((F.drop (2 * M)).take (2 * (n - M))) := by
  have hrun : ∀ W, (Instr.slice 60 (.slice a n c) (some (.int .i64 (M : Int))) none none).run Try.prog W = .ok (sliced a M n c 2) W := by
    intro W
    have hs : (sizeOf 26).run Try.prog W = .ok 2 W := by kernel_rfl
    have he : Try.prog.elem 60 = 26 := by kernel_rfl
    rw [run_slice_l (P := Try.prog) (w := W) 60 a n c (by rw [he]; exact Try.underlying60) .i64 (M : Int) (by omega) (by omega), he, hs]
    simp [Result.andThen]
  refine ⟨_, _, hrun, ?_⟩
  by_cases h0 : n - M = 0
  · rw [h0]
    exact ⟨_, 0, _, rfl, by simp, .inl rfl⟩
  · obtain ⟨o, off, _, _, rfl, _⟩ := h.at (k := M) (by omega)
    refine arrsI_sub h (by omega) (.inr ?_)
    rw [if_neg (by omega)]
    simp [Addr.add]
/-- A list of arrays up to one. -/
theorem arrs_upto {w : World} {a : Option Addr} {n c m : Nat} {F : List (List Int)} (h : ArrsI w (.slice a n c) F) (hc : n ≤ c) (hm : m ≤ n) :
    ∃ a' c', (∀ W, (Instr.slice 60 (.slice a n c) none (some (.int .i64 (m : Int))) none).run Try.prog W = .ok (.slice a' m c') W) ∧ ArrsI w (.slice a' m c') ((F.drop 0).take (2 * m)) := by
  have hrun : ∀ W, (Instr.slice 60 (.slice a n c) none (some (.int .i64 (m : Int))) none).run Try.prog W = .ok (sliced a 0 m c 2) W := by
    intro W
    have hs : (sizeOf 26).run Try.prog W = .ok 2 W := by kernel_rfl
    have he : Try.prog.elem 60 = 26 := by kernel_rfl
    rw [run_slice_h (P := Try.prog) (w := W) 60 a n c (by rw [he]; exact Try.underlying60) .i64 (m : Int) (by omega) (by omega), he, hs]
    simp [Result.andThen]
  refine ⟨_, _, hrun, ?_⟩
  by_cases h0 : m = 0
  · subst h0
    exact ⟨_, 0, _, rfl, by simp, .inl rfl⟩
  · obtain ⟨o, off, _, _, rfl, _⟩ := h.at (k := 0) (by omega)
    have := arrsI_sub (M := 0) (m := m) (a' := some ⟨o, off, none⟩) (c' := c - 0) h (by omega) (.inr (by simp))
    simpa [sliced, Addr.add] using this
theorem vec_ok {t e : List Int} (h : arrOk t e = true) : arrOk (vecS t e) e = true ∧ vecS t e ≠ [] := by
  unfold vecS
  by_cases ht : t = []
  · subst ht
    rw [if_pos rfl]
    have z := arrOk_size h
    rw [sizeV_0'] at z
    have hl : e.length = 1 := by omega
    refine ⟨?_, by simp⟩
    have h2 : e.all ok = true := by
      unfold arrOk at h
      simp only [Bool.and_eq_true] at h
      exact h.2
    unfold arrOk
    rw [h2, hl]
    decide
  · rw [if_neg ht]; exact ⟨h, ht⟩
end Go.Proofs.Ytbmkfmppcojcgaa
namespace Go.Proofs.Ytbmkfmppcojcgaa
open Go.RowKit
set_option linter.unusedVariables false
set_option linter.unusedSimpArgs false
/-- One array of one's own more. -/
theorem RI.grow {B : Nat} {w0 wr w2 : World} {v : Value} {k : Nat} {xs : List Value} {F : List (List Int)} {x y : Value} (h : RI B w0 wr v k xs F) (hk : k < 1000000) (hb : Below wr.heap.size wr w2)
    (ha : Arr wr.heap.size w2.heap.size w2 (.agg #[x, y]) (F.getD (2 * k) []) (F.getD (2 * k + 1) [])) :
    ∃ a' c' w', (Builtin.append_ #[60, 60] 60 #[v, .slice (some ⟨w2.heap.size, 0, none⟩) 1 1]).run Try.prog (w2.alloc (.cells #[x, y] 26)) = .ok (.slice a' (k + 1) c') w' ∧ RI B w0 w' (.slice a' (k + 1) c') (k + 1) (xs ++ [x, y]) F := by
  obtain ⟨i, hq, z1, z2, z3⟩ : ∃ i, Try.prog.info? 26 = some i ∧ i.zero = some (.agg #[.slice none 0 0, .slice none 0 0]) ∧ i.size = 2 ∧ i.bytes = 48 := by
    have hi := info_arr
    cases hq : Try.prog.info? 26 with
    | none => rw [hq] at hi; cases hi
    | some i => rw [hq] at hi; simp at hi; exact ⟨i, rfl, hi.1, hi.2.1, hi.2.2⟩
  obtain ⟨x', y', e', px, py, hap⟩ := ha
  obtain ⟨rfl, rfl⟩ : x = x' ∧ y = y' := by cases e'; exact ⟨rfl, rfl⟩
  obtain ⟨a1, c1, ex, _⟩ := px.ints
  obtain ⟨a2, c2, ey, _⟩ := py.ints
  have hz := hb.size
  have hB := h.size
  have hb' : Below wr.heap.size wr (w2.alloc (.cells #[x, y] 26)) := bAlloc hb _
  obtain ⟨g, cap, w', hr, h2, h3, h4, h5⟩ := run_append_lies (P := Try.prog) (w := w2.alloc (.cells #[x, y] 26)) 60 60 B 26 i _ 2 48 Try.underlying60 hq z1 z2 z3 rfl (by decide) v k xs (ownsRow_keep h.own hb') ⟨w2.heap.size, 0, none⟩ 1 1 [x, y] rfl (World.news_of_block (cs := #[x, y]) (heap_alloc_new w2 _)) (by rw [ex, ey]; simp [Value.oneCell']) (by decide) (by unfold maxLen; omega) (by omega) (by simp; omega) _ rfl
  refine ⟨_, _, w', hr, h.step hb' ?_ ?_ hap h2 h3 h4⟩
  · exact (px.keep (bAlloc (Below.refl _ _) _)).mono (Nat.le_refl _) (by simp)
  · exact (py.keep (bAlloc (Below.refl _ _) _)).mono (Nat.le_refl _) (by simp)
theorem ri_new (w : World) (F : List (List Int)) : RI w.heap.size w (w.alloc (.cells #[] 26)) (.slice (some ⟨w.heap.size, 0, none⟩) 0 0) 0 [] F :=
  ⟨⟨rfl, .inr ⟨w.heap.size, 0, #[], rfl, Nat.le_refl _, heap_alloc_new w _, Nat.le_refl _, by unfold maxLen; omega, rfl, rfl⟩⟩, fun j hj => by omega, fun i j _ hj => by omega, fun j hj => by omega, bAlloc (Below.refl _ _) _, by simp⟩
theorem catF_flat (t : List Int) (f : Nat → List Int) (n : Nat) : catF ((List.range n).flatMap (fun i => [t, f i])) n = (List.range n).flatMap f := by
  unfold catF
  rw [List.flatMap_def, List.flatMap_def]
  congr 1
  apply List.map_congr_left
  intro i hi
  exact flat2_odd (fun _ => t) f (by simpa using hi)
theorem scanR_bad {g : Int} {s d : List Int} (h : ¬ (arrOk s d = true ∧ sign2 g = true)) : scanR g s d = (1, [], []) := by
  unfold scanR; rw [show scanC g s d = 1 from by unfold scanC; rw [if_neg h]]; rfl
theorem scanR_nil {g : Int} {d : List Int} (h : arrOk [] d = true ∧ sign2 g = true) : scanR g [] d = (0, [], d) := by
  unfold scanR; rw [show scanC g [] d = 0 from by unfold scanC; rw [if_pos h, if_pos rfl]]; unfold scanD; rw [if_pos rfl]; rfl
theorem scanR_told {g : Int} {s d : List Int} (h : arrOk s d = true ∧ sign2 g = true) (hs : s ≠ []) : scanR g s d = mkR (firstC (fun i => (scanK g s d i).1) (rowsN s)) s ((List.range (rowsN s)).flatMap (fun i => (scanK g s d i).2)) := by
  unfold scanR scanC scanD; rw [if_pos h, if_neg hs, if_neg hs]
theorem scanK_len {g : Int} {s d : List Int} (ho : arrOk s d = true) (hs : s ≠ []) (i : Nat) : (scanK g s d i).2.length ≤ 300 := redL_len (take_ok (rowsD_ok ho hs) _)
end Go.Proofs.Ytbmkfmppcojcgaa
namespace Go.Proofs.Ytbmkfmppcojcgaa
open Go.RowKit
set_option linter.unusedVariables false
set_option linter.unusedSimpArgs false
set_option maxRecDepth 20000 in
set_option maxHeartbeats 8000000 in
/-- l7Cell. -/
theorem cell_spec {f g : Int} {x y : List Int} {n : Nat} {w : World} {a b : Option Addr} (hx : Ints w a x) (hy : Ints w b y) (ex : x.length = n) (ey : y.length = n) (hn : n ≤ 300) (c e : Nat) :
    Calls Try.prog 49 #[.int .i64 f, .int .i64 g, .slice a n c, .slice b n e] w fun r w' => r = .returned (.tuple #[.int .i64 (cellR f g x y n).1, .int .i64 (cellR f g x y n).2]) ∧ Below w.heap.size w w' := by
  have HX : Hid (Ints w a x) := hx
  have HY : Hid (Ints w b y) := hy
  have EX : Hid (x.length = n) := ex
  have EY : Hid (y.length = n) := ey
  obtain ⟨V, hV⟩ : ∃ V, V = (cellR f g x y n).1 := ⟨_, rfl⟩
  obtain ⟨C, hC⟩ : ∃ C, C = (cellR f g x y n).2 := ⟨_, rfl⟩
  rw [← hV, ← hC]
  obtain ⟨R, hR⟩ : ∃ R, R = pairR g x y n := ⟨_, rfl⟩
  have RL : Hid (R.length = n) := by show _ = _; rw [hR, pairR_len]
  have RA : Hid (∀ k, k < n → R.getD k [] = [(twoV g (x.getD k 0) (y.getD k 0)).1]) := fun k hk => by rw [hR]; exact pairR_at g x y hk
  have RO : Hid (pairC g x y n = 0 → ∀ i, i < R.length → arrOk [] (R.getD i []) = true) := fun h => by rw [hR]; exact pair_ok h
  have EB : Hid (∀ k, k < n → pairC g x y k = 0 → (twoV g (x.getD k 0) (y.getD k 0)).2 ≠ 0 → V = 0 ∧ C = (twoV g (x.getD k 0) (y.getD k 0)).2) := fun k hk h h0 => by
    rw [cellR_stop hk h h0] at hV hC; exact ⟨hV, hC⟩
  have E0 : Hid (n = 0 → V = (neu f).1 ∧ C = 0) := fun h => by
    subst h; rw [cellR_none] at hV hC; exact ⟨hV, hC⟩
  have E1 : Hid (pairC g x y n = 0 → n ≠ 0 → (redL f [] R).1 ≠ 0 → V = 0 ∧ C = (redL f [] R).1) := fun h h1 h2 => by
    rw [hR] at h2 ⊢; rw [cellR_bad h h1 h2] at hV hC; exact ⟨hV, hC⟩
  have E2 : Hid (pairC g x y n = 0 → n ≠ 0 → (redL f [] R).1 = 0 → (redL f [] R).2 = [V] ∧ C = 0) := fun h h1 h2 => by
    rw [hR] at h2 ⊢
    obtain ⟨z, q1, q2⟩ := cellR_good h h1 h2
    rw [q2] at hV hC
    rw [hV]
    exact ⟨q1, hC⟩
  clear hV hC hR hx hy ex ey
  go_enter Try.func49, Try.ntmps49
  go_wp2
  generalize hW : w.alloc (.cells #[] 26) = W3
  have L3 : Hid (RI w.heap.size w W3 (.slice (some ⟨w.heap.size, 0, none⟩) 0 0) 0 [] (flatR [] R)) := by rw [← hW]; exact ri_new w _
  clear hW
  go_loopg [10, 11] n (fun gk u i w' => ∃ (k : Nat) (ad : Option Addr) (cd : Nat) (xs : List Value), gk = n - k ∧ k ≤ n ∧ u = .slice ad k cd ∧ i = .int .i64 (k : Int) ∧ pairC g x y k = 0 ∧ RI w.heap.size w w' (.slice ad k cd) k xs (flatR [] R))
  case atStart => exact ⟨0, _, _, _, rfl, by omega, rfl, rfl, rfl, L3.out⟩
  case round =>
    obtain ⟨k, ad, cd, xs, rfl, hk, rfl, rfl, hF0, hL⟩ := hrel
    have LK : Hid (RI w.heap.size w wr (.slice ad k cd) k xs (flatR [] R)) := hL
    have HF0 : Hid (pairC g x y k = 0) := hF0
    clear hL L3 hF0
    by_cases hlt : (k : Int) < (n : Int)
    · have hkn : k < n := by omega
      obtain ⟨p1, o1, rfl, hp1, u1⟩ := (HX.out.keep LK.out.below).at (k := k) (by rw [EX.out]; exact hkn)
      obtain ⟨p2, o2, rfl, hp2, u2⟩ := (HY.out.keep LK.out.below).at (k := k) (by rw [EY.out]; exact hkn)
      have EBk : Hid ((twoV g (x.getD k 0) (y.getD k 0)).2 ≠ 0 → V = 0 ∧ C = (twoV g (x.getD k 0) (y.getD k 0)).2) := EB.out k hkn HF0.out
      have EF : Hid ((twoV g (x.getD k 0) (y.getD k 0)).2 = 0 → pairC g x y (k + 1) = 0) := fun h => firstC_go HF0.out h
      have RK := RA.out k hkn
      have TW : Hid (∀ W, Calls Try.prog 76 #[.int .i64 g, .int .i64 (x.getD k 0), .int .i64 (y.getD k 0)] W fun e w' => e = .returned (.tuple #[.int .i64 (twoV g (x.getD k 0) (y.getD k 0)).1, .int .i64 (twoV g (x.getD k 0) (y.getD k 0)).2]) ∧ w' = W) := fun W => two_spec g _ _ W
      generalize (twoV g (x.getD k 0) (y.getD k 0)).1 = X0 at *
      generalize (twoV g (x.getD k 0) (y.getD k 0)).2 = C0 at *
      generalize x.getD k 0 = x1 at *
      generalize y.getD k 0 = y1 at *
      by_cases hc : C0 = 0
      · subst hc
        have EF2 : Hid (pairC g x y (k + 1) = 0) := EF.out rfl
        have RK2 : Hid (R.getD k [] = [X0]) := RK
        clear EBk EF RK
        go_wp2_with fail
        go_quiet ((go_at_call 76; exact Calls.quiet_of_same (TW.out _)))
        have BQ : Hid (Below wr.heap.size wr (wr.drewN nq)) := bDrewN (Below.refl _ _) nq
        generalize wr.drewN nq = wq at *
        go_wp2_with fail
        refine (scalar_spec _ _).mono ?_
        rintro r w5 ⟨v5, rfl, ha, hb⟩
        obtain ⟨a5, c5, b5, e5, rfl, _, _, _, _⟩ := ha.arrI
        obtain ⟨q1, q2⟩ := flatR_at [] R (i := k) (by rw [RL.out]; exact hkn)
        obtain ⟨a7, c7, w7, hr7, hl7⟩ := LK.out.grow (by omega) (bTrans BQ.out hb) (by rw [q1, q2, RK2.out]; exact ha.mono BQ.out.size (Nat.le_refl _))
        have R7 : Hid (_ = _) := hr7
        have L7 : Hid (RI _ _ w7 _ (k + 1) _ (flatR [] R)) := hl7
        clear hr7 hl7 q1 q2 ha hb
        go_wp2_with (at_builtin; refine wpList_append_ty rfl _ _ 60 60 rfl _ _ _ rfl rfl R7.out ?_)
        go_roundg (n - (k + 1))
        case measure => omega
        case rel => exact ⟨k + 1, _, _, _, rfl, by omega, rfl, by go_num, EF2.out, L7.out⟩
      · obtain ⟨rfl, rfl⟩ := EBk.out hc
        have hcb : (C != 0) = true := by simpa using hc
        clear EF RK
        go_wp2_with fail
        go_quiet ((go_at_call 76; exact Calls.quiet_of_same (TW.out _)))
        have BQ : Hid (Below wr.heap.size wr (wr.drewN nq)) := bDrewN (Below.refl _ _) nq
        go_wp2
        go_ret2
        exact ⟨rfl, bTrans LK.out.below BQ.out⟩
    · obtain rfl : k = n := by omega
      have LA : Hid (ArrsI wr (.slice ad k cd) (flatR [] R)) := (LK.out.done (by rw [flatR_len, RL.out])).arrsI
      by_cases hn0 : k = 0
      · subst hn0
        obtain ⟨hV, rfl⟩ := E0.out rfl
        go_wp2_with fail
        refine (l7red0_spec _ _ _ _ _ _).mono ?_
        rintro r w8 ⟨v8, rfl, ha, hb⟩
        rw [← hV] at ha
        obtain ⟨a8, c8, b8, e8, rfl, _, i8, _, _⟩ := ha.arrI
        obtain ⟨p1, o1, rfl, hp1, u1⟩ := i8.at (k := 0) (by simp)
        have u2 : ∀ o : Obj, (w8.alloc o).cell? ⟨p1, o1, none⟩ = some (.int .i64 V) := fun o => ((bAlloc (Below.refl w8.heap.size w8) o).cell (p := ⟨p1, o1, none⟩) hp1).trans u1
        have B8 : Hid (Below w.heap.size w w8) := bTrans LK.out.below (bTrans (bAlloc (Below.refl _ _) _) hb)
        clear ha hb i8 u1
        clear hV
        go_wp2
        go_ret2
        exact ⟨rfl, bAlloc B8.out _⟩
      · have HRE : Hid (∀ W u, ArrsI W (.slice ad k cd) (flatR [] R) → Calls Try.prog 78 #[.int .i64 f, .slice ad k cd, u] W fun r w' => ∃ v', r = .returned (.tuple #[v', .int .i64 (redL f [] R).1]) ∧ Arr W.heap.size w'.heap.size w' v' (if (redL f [] R).1 = 0 then [] else []) (redL f [] R).2 ∧ Below W.heap.size W w') := fun W u h =>
          l7red_spec h (by intro q; have := RL.out; rw [q] at this; simp at this; omega) (RO.out HF0.out) (by rw [RL.out]; exact hn)
        have E1k := E1.out HF0.out hn0
        have E2k := E2.out HF0.out hn0
        generalize (redL f [] R).1 = Q at *
        generalize (redL f [] R).2 = QD at *
        by_cases hq : Q = 0
        · subst hq
          obtain ⟨rfl, rfl⟩ := E2k rfl
          clear E1k E2k
          go_wp2_with fail
          refine (HRE.out _ _ (LA.out.keep (bAlloc (Below.refl _ _) _))).mono ?_
          rintro r w8 ⟨v8, rfl, ha, hb⟩
          obtain ⟨a8, c8, b8, e8, rfl, _, i8, _, _⟩ := ha.arrI
          obtain ⟨p1, o1, rfl, hp1, u1⟩ := i8.at (k := 0) (by simp)
          have u2 : ∀ o : Obj, (w8.alloc o).cell? ⟨p1, o1, none⟩ = some (.int .i64 V) := fun o => ((bAlloc (Below.refl w8.heap.size w8) o).cell (p := ⟨p1, o1, none⟩) hp1).trans u1
          have B8 : Hid (Below w.heap.size w w8) := bTrans LK.out.below (bTrans (bAlloc (Below.refl _ _) _) hb)
          clear ha hb i8 u1
          go_wp2
          go_ret2
          exact ⟨rfl, bAlloc B8.out _⟩
        · obtain ⟨rfl, rfl⟩ := E1k hq
          have hcb : (C != 0) = true := by simpa using hq
          clear E1k E2k
          go_wp2_with fail
          refine (HRE.out _ _ (LA.out.keep (bAlloc (Below.refl _ _) _))).mono ?_
          rintro r w8 ⟨v8, rfl, ha, hb⟩
          obtain ⟨a8, c8, b8, e8, rfl, _, i8, _, _⟩ := ha.arrI
          have B8 : Hid (Below w.heap.size w w8) := bTrans LK.out.below (bTrans (bAlloc (Below.refl _ _) _) hb)
          clear ha hb i8
          go_wp2
          go_ret2
          exact ⟨rfl, bAlloc B8.out _⟩
end Go.Proofs.Ytbmkfmppcojcgaa
