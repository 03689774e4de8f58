/-
  Walks: the specification's l7Cell.
-/
import Derived.Test.YtnkacfgbkfkhdaaGreatY12
import Derived.Test.YtnkacfgbkfkhdaaGreatY42
import Derived.Test.YtnkacfgbkfkhdaaGreatY31
import Derived.Test.YtnkacfgbkfkhdaaGreatY17
import Derived.Test.YtnkacfgbkfkhdaaGreatY8
namespace Go.Proofs.YtnkacfgbkfkhdaaGreat
open Go.RowKit
set_option linter.unusedVariables false
set_option linter.unusedSimpArgs false
set_option maxRecDepth 20000 in
set_option maxHeartbeats 8000000 in
/-- l7Cell. -/
theorem cell_spec {f g : Int} {x y : List Int} {n : Nat} {w : World} {a b : Option Addr} (hx : Ints w a x) (hy : Ints w b y) (ex : x.length = n) (ey : y.length = n) (hn : n ≤ 300) (c e : Nat) :
    Calls Tryz.prog 33 #[.int .i64 f, .int .i64 g, .slice a n c, .slice b n e] w fun r w' => r = .returned (.tuple #[.int .i64 (cellR f g x y n).1, .int .i64 (cellR f g x y n).2]) ∧ Below w.heap.size w w' := by
  have HX : Hid (Ints w a x) := hx
  have HY : Hid (Ints w b y) := hy
  have EX : Hid (x.length = n) := ex
  have EY : Hid (y.length = n) := ey
  obtain ⟨V, hV⟩ : ∃ V, V = (cellR f g x y n).1 := ⟨_, rfl⟩
  obtain ⟨C, hC⟩ : ∃ C, C = (cellR f g x y n).2 := ⟨_, rfl⟩
  rw [← hV, ← hC]
  obtain ⟨R, hR⟩ : ∃ R, R = pairR g x y n := ⟨_, rfl⟩
  have RL : Hid (R.length = n) := by show _ = _; rw [hR, pairR_len]
  have RA : Hid (∀ k, k < n → R.getD k [] = [(twoV g (x.getD k 0) (y.getD k 0)).1]) := fun k hk => by rw [hR]; exact pairR_at g x y hk
  have RO : Hid (pairC g x y n = 0 → ∀ i, i < R.length → arrOk [] (R.getD i []) = true) := fun h => by rw [hR]; exact pair_ok h
  have EB : Hid (∀ k, k < n → pairC g x y k = 0 → (twoV g (x.getD k 0) (y.getD k 0)).2 ≠ 0 → V = 0 ∧ C = (twoV g (x.getD k 0) (y.getD k 0)).2) := fun k hk h h0 => by
    rw [cellR_stop hk h h0] at hV hC; exact ⟨hV, hC⟩
  have E0 : Hid (n = 0 → V = (neu f).1 ∧ C = 0) := fun h => by
    subst h; rw [cellR_none] at hV hC; exact ⟨hV, hC⟩
  have E1 : Hid (pairC g x y n = 0 → n ≠ 0 → (redL f [] R).1 ≠ 0 → V = 0 ∧ C = (redL f [] R).1) := fun h h1 h2 => by
    rw [hR] at h2 ⊢; rw [cellR_bad h h1 h2] at hV hC; exact ⟨hV, hC⟩
  have E2 : Hid (pairC g x y n = 0 → n ≠ 0 → (redL f [] R).1 = 0 → (redL f [] R).2 = [V] ∧ C = 0) := fun h h1 h2 => by
    rw [hR] at h2 ⊢
    obtain ⟨z, q1, q2⟩ := cellR_good h h1 h2
    rw [q2] at hV hC
    rw [hV]
    exact ⟨q1, hC⟩
  clear hV hC hR hx hy ex ey
  go_enter Tryz.func33, Tryz.ntmps33
  go_wp2
  generalize hW : w.alloc (.cells #[] 26) = W3
  have L3 : Hid (RI w.heap.size w W3 (.slice (some ⟨w.heap.size, 0, none⟩) 0 0) 0 [] (flatR [] R)) := by rw [← hW]; exact ri_new w _
  clear hW
  go_loopg [10, 11] n (fun gk u i w' => ∃ (k : Nat) (ad : Option Addr) (cd : Nat) (xs : List Value), gk = n - k ∧ k ≤ n ∧ u = .slice ad k cd ∧ i = .int .i64 (k : Int) ∧ pairC g x y k = 0 ∧ RI w.heap.size w w' (.slice ad k cd) k xs (flatR [] R))
  case atStart => exact ⟨0, _, _, _, rfl, by omega, rfl, rfl, rfl, L3.out⟩
  case round =>
    obtain ⟨k, ad, cd, xs, rfl, hk, rfl, rfl, hF0, hL⟩ := hrel
    have LK : Hid (RI w.heap.size w wr (.slice ad k cd) k xs (flatR [] R)) := hL
    have HF0 : Hid (pairC g x y k = 0) := hF0
    clear hL L3 hF0
    by_cases hlt : (k : Int) < (n : Int)
    · have hkn : k < n := by omega
      obtain ⟨p1, o1, rfl, hp1, u1⟩ := (HX.out.keep LK.out.below).at (k := k) (by rw [EX.out]; exact hkn)
      obtain ⟨p2, o2, rfl, hp2, u2⟩ := (HY.out.keep LK.out.below).at (k := k) (by rw [EY.out]; exact hkn)
      have EBk : Hid ((twoV g (x.getD k 0) (y.getD k 0)).2 ≠ 0 → V = 0 ∧ C = (twoV g (x.getD k 0) (y.getD k 0)).2) := EB.out k hkn HF0.out
      have EF : Hid ((twoV g (x.getD k 0) (y.getD k 0)).2 = 0 → pairC g x y (k + 1) = 0) := fun h => firstC_go HF0.out h
      have RK := RA.out k hkn
      have TW : Hid (∀ W, Calls Tryz.prog 59 #[.int .i64 g, .int .i64 (x.getD k 0), .int .i64 (y.getD k 0)] W fun e w' => e = .returned (.tuple #[.int .i64 (twoV g (x.getD k 0) (y.getD k 0)).1, .int .i64 (twoV g (x.getD k 0) (y.getD k 0)).2]) ∧ w' = W) := fun W => two_spec g _ _ W
      generalize (twoV g (x.getD k 0) (y.getD k 0)).1 = X0 at *
      generalize (twoV g (x.getD k 0) (y.getD k 0)).2 = C0 at *
      generalize x.getD k 0 = x1 at *
      generalize y.getD k 0 = y1 at *
      by_cases hc : C0 = 0
      · subst hc
        have EF2 : Hid (pairC g x y (k + 1) = 0) := EF.out rfl
        have RK2 : Hid (R.getD k [] = [X0]) := RK
        clear EBk EF RK
        go_wp2_with fail
        go_quiet ((go_at_call 59; exact Calls.quiet_of_same (TW.out _)))
        have BQ : Hid (Below wr.heap.size wr (wr.drewN nq)) := bDrewN (Below.refl _ _) nq
        generalize wr.drewN nq = wq at *
        go_wp2_with fail
        refine (scalar_spec _ _).mono ?_
        rintro r w5 ⟨v5, rfl, ha, hb⟩
        obtain ⟨a5, c5, b5, e5, rfl, _, _, _, _⟩ := ha.arrI
        obtain ⟨q1, q2⟩ := flatR_at [] R (i := k) (by rw [RL.out]; exact hkn)
        obtain ⟨a7, c7, w7, hr7, hl7⟩ := LK.out.grow (by omega) (bTrans BQ.out hb) (by rw [q1, q2, RK2.out]; exact ha.mono BQ.out.size (Nat.le_refl _))
        have R7 : Hid (_ = _) := hr7
        have L7 : Hid (RI _ _ w7 _ (k + 1) _ (flatR [] R)) := hl7
        clear hr7 hl7 q1 q2 ha hb
        go_wp2_with (at_builtin; refine wpList_append_ty rfl _ _ 48 48 rfl _ _ _ rfl rfl R7.out ?_)
        go_roundg (n - (k + 1))
        case measure => omega
        case rel => exact ⟨k + 1, _, _, _, rfl, by omega, rfl, by go_num, EF2.out, L7.out⟩
      · obtain ⟨rfl, rfl⟩ := EBk.out hc
        have hcb : (C != 0) = true := by simpa using hc
        clear EF RK
        go_wp2_with fail
        go_quiet ((go_at_call 59; exact Calls.quiet_of_same (TW.out _)))
        have BQ : Hid (Below wr.heap.size wr (wr.drewN nq)) := bDrewN (Below.refl _ _) nq
        go_wp2
        go_ret2
        exact ⟨rfl, bTrans LK.out.below BQ.out⟩
    · obtain rfl : k = n := by omega
      have LA : Hid (ArrsI wr (.slice ad k cd) (flatR [] R)) := (LK.out.done (by rw [flatR_len, RL.out])).arrsI
      by_cases hn0 : k = 0
      · subst hn0
        obtain ⟨hV, rfl⟩ := E0.out rfl
        go_wp2_with fail
        refine (l7red0_spec _ _ _ _ _ _).mono ?_
        rintro r w8 ⟨v8, rfl, ha, hb⟩
        rw [← hV] at ha
        obtain ⟨a8, c8, b8, e8, rfl, _, i8, _, _⟩ := ha.arrI
        obtain ⟨p1, o1, rfl, hp1, u1⟩ := i8.at (k := 0) (by simp)
        have u2 : ∀ o : Obj, (w8.alloc o).cell? ⟨p1, o1, none⟩ = some (.int .i64 V) := fun o => ((bAlloc (Below.refl w8.heap.size w8) o).cell (p := ⟨p1, o1, none⟩) hp1).trans u1
        have B8 : Hid (Below w.heap.size w w8) := bTrans LK.out.below (bTrans (bAlloc (Below.refl _ _) _) hb)
        clear ha hb i8 u1
        clear hV
        go_wp2
        go_ret2
        exact ⟨rfl, bAlloc B8.out _⟩
      · have HRE : Hid (∀ W u, ArrsI W (.slice ad k cd) (flatR [] R) → Calls Tryz.prog 61 #[.int .i64 f, .slice ad k cd, u] W fun r w' => ∃ v', r = .returned (.tuple #[v', .int .i64 (redL f [] R).1]) ∧ Arr W.heap.size w'.heap.size w' v' (if (redL f [] R).1 = 0 then [] else []) (redL f [] R).2 ∧ Below W.heap.size W w') := fun W u h =>
          l7red_spec h (by intro q; have := RL.out; rw [q] at this; simp at this; omega) (RO.out HF0.out) (by rw [RL.out]; exact hn)
        have E1k := E1.out HF0.out hn0
        have E2k := E2.out HF0.out hn0
        generalize (redL f [] R).1 = Q at *
        generalize (redL f [] R).2 = QD at *
        by_cases hq : Q = 0
        · subst hq
          obtain ⟨rfl, rfl⟩ := E2k rfl
          clear E1k E2k
          go_wp2_with fail
          refine (HRE.out _ _ (LA.out.keep (bAlloc (Below.refl _ _) _))).mono ?_
          rintro r w8 ⟨v8, rfl, ha, hb⟩
          obtain ⟨a8, c8, b8, e8, rfl, _, i8, _, _⟩ := ha.arrI
          obtain ⟨p1, o1, rfl, hp1, u1⟩ := i8.at (k := 0) (by simp)
          have u2 : ∀ o : Obj, (w8.alloc o).cell? ⟨p1, o1, none⟩ = some (.int .i64 V) := fun o => ((bAlloc (Below.refl w8.heap.size w8) o).cell (p := ⟨p1, o1, none⟩) hp1).trans u1
          have B8 : Hid (Below w.heap.size w w8) := bTrans LK.out.below (bTrans (bAlloc (Below.refl _ _) _) hb)
          clear ha hb i8 u1
          go_wp2
          go_ret2
          exact ⟨rfl, bAlloc B8.out _⟩
        · obtain ⟨rfl, rfl⟩ := E1k hq
          have hcb : (C != 0) = true := by simpa using hq
          clear E1k E2k
          go_wp2_with fail
          refine (HRE.out _ _ (LA.out.keep (bAlloc (Below.refl _ _) _))).mono ?_
          rintro r w8 ⟨v8, rfl, ha, hb⟩
          obtain ⟨a8, c8, b8, e8, rfl, _, i8, _, _⟩ := ha.arrI
          have B8 : Hid (Below w.heap.size w w8) := bTrans LK.out.below (bTrans (bAlloc (Below.refl _ _) _) hb)
          clear ha hb i8
          go_wp2
          go_ret2
          exact ⟨rfl, bAlloc B8.out _⟩
end Go.Proofs.YtnkacfgbkfkhdaaGreat
