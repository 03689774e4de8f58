/-
  Walks: the specification's l11Depths, CodeOk and CodeDeep.
-/
import Derived.Test.YtpommfkbkknjaaaCodeS2
import Derived.Test.YtpommfkbkknjaaaGrow
namespace Go.Proofs.Ytpommfkbkknjaaa
open Go.RowKit
set_option linter.unusedVariables false
set_option linter.unusedSimpArgs false
/-- How many there are ahead of each of the first k, and behind them. -/
def deps (E : Nat → Nat → Int) (k : Nat) : List Int := (List.range (k + 1)).map (dep E)
theorem deps_snoc (E : Nat → Nat → Int) (k : Nat) : deps E (k + 1) = deps E k ++ [dep E (k + 1)] := by unfold deps; rw [List.range_succ, List.map_append]; rfl
theorem deps_len (E : Nat → Nat → Int) (k : Nat) : (deps E k).length = k + 1 := by simp [deps]
theorem deps_at (E : Nat → Nat → Int) {k i : Nat} (h : i < k + 1) : (deps E k).getD i 0 = dep E i := by simp [deps, List.getD_eq_getElem?_getD, h]
/-- What l11Depths answers. -/
def DepPost (w : World) (n : Nat) (E : Nat → Nat → Int) (r : Ending) (w' : World) : Prop := (∃ (ad : Option Addr) (k cd : Nat), r = .returned (.tuple #[.slice ad k cd, .bool false]) ∧ ¬ (∀ i, i < n → takesN (E i 0) ≤ dep E i) ∧ Below w.heap.size w w') ∨ (∃ (ad : Option Addr) (cd : Nat), r = .returned (.tuple #[.slice ad (n + 1) cd, .bool true]) ∧ (∀ i, i < n → takesN (E i 0) ≤ dep E i) ∧ Ints w' ad (deps E n) ∧ Below w.heap.size w w')
set_option maxRecDepth 20000 in
set_option maxHeartbeats 8000000 in
/-- l11Depths. -/
theorem depths_spec {w : World} {v : Value} {n : Nat} {E : Nat → Nat → Int} {N : Nat → List Int} (h : InsI w v n E N) (hn : n ≤ 60) :
    Calls Try.prog 26 #[v] w fun r w' => DepPost w n E r w' := by
  have H : Hid (InsI w v n E N) := h
  obtain ⟨a, c, rfl, _⟩ := h
  go_enter Try.func26, Try.ntmps26
  go_wp2
  generalize hW : w.alloc (.cells #[.int .i64 0] 3) = W0
  have N0 : Hid (NewInts w.heap.size W0 (.slice (some ⟨w.heap.size, 0, none⟩) (0 + 1) 1) (deps E 0)) := by rw [← hW]; exact newInts_alloc w [0] (Nat.le_refl _) (by simp)
  have B0 : Hid (Below w.heap.size w W0) := by rw [← hW]; exact bAlloc (Below.refl _ _) _
  clear hW
  go_loopw [4, 5, 6] (fun u m i w' => ∃ (k : Nat) (ad : Option Addr) (cd : Nat), k ≤ n ∧ u = .slice ad (k + 1) cd ∧ m = .int .i64 (dep E k) ∧ i = .int .i64 (k : Int) ∧ (∀ i, i < k → takesN (E i 0) ≤ dep E i) ∧ NewInts w.heap.size w' (.slice ad (k + 1) cd) (deps E k) ∧ Below w.heap.size w w') (fun _ _ i _ => n - (intOf i).toNat)
  case atStart => exact ⟨0, _, _, by omega, rfl, rfl, rfl, fun i hi => absurd hi (by omega), N0.out, B0.out⟩
  case round =>
    obtain ⟨k, ad, cd, hk, rfl, rfl, rfl, hA, hN, hB⟩ := hrel
    have HA : Hid (∀ i, i < k → takesN (E i 0) ≤ dep E i) := hA
    have NK : Hid (NewInts w.heap.size wr (.slice ad (k + 1) cd) (deps E k)) := hN
    have BK : Hid (Below w.heap.size w wr) := hB
    clear hA hN hB N0 B0
    by_cases hlt : (k : Int) < (n : Int)
    · have L : k < n := by omega
      obtain ⟨o, off, xa, xc, rfl, ho, ⟨p0, p1, p2, p3, p4, p5⟩, _⟩ := (H.out.keep BK.out).at L
      have CT : Hid (Calls Try.prog 28 #[.agg #[.int .i64 (E k 0), .int .i64 (E k 1), .int .i64 (E k 2), .int .i64 (E k 3), .int .i64 (E k 4), .slice xa (N k).length xc]] wr fun r w' => r = .returned (.tuple #[.int .i64 (takesN (E k 0)), .int .i64 (1 - takesN (E k 0))]) ∧ Below wr.heap.size wr w') := takes_spec _ _ _ _ _ _ _ _ _
      have NX : Hid (takesN (E k 0) ≤ dep E k → ∀ i, i < k + 1 → takesN (E i 0) ≤ dep E i) := fun h i hi => by
        by_cases e : i = k
        · rw [e]; exact h
        · exact HA.out i (by omega)
      have BX : Hid (dep E k < takesN (E k 0) → ¬ ∀ i, i < n → takesN (E i 0) ≤ dep E i) := fun h g => by have := g k L; omega
      obtain ⟨D1, hD1⟩ : ∃ D1, D1 = dep E (k + 1) := ⟨_, rfl⟩
      have HD1 : Hid (D1 = dep E (k + 1)) := hD1
      have ED : Hid (D1 = dep E k + (1 - takesN (E k 0))) := hD1
      have EL : Hid (deps E (k + 1) = deps E k ++ [D1]) := by rw [hD1]; exact deps_snoc E k
      clear hD1
      have LL : Hid ((deps E k).length = k + 1) := deps_len E k
      have t0 := takesN_cases (E k 0)
      have d0 := (dep_pos HA.out).1
      have d1 := dep_le E k
      clear ho
      generalize takesN (E k 0) = z at *
      generalize E k 0 = q0 at *
      generalize E k 1 = q1 at *
      generalize E k 2 = q2 at *
      generalize E k 3 = q3 at *
      generalize E k 4 = q4 at *
      generalize (N k).length = nl at *
      generalize dep E k = D at *
      by_cases hz : D < z
      · have NO : Hid (¬ ∀ i, i < n → takesN (E i 0) ≤ dep E i) := BX.out hz
        clear NX BX
        go_wp2_with fail
        refine CT.out.mono ?_
        rintro r w2 ⟨rfl, hb⟩
        have B2 : Hid (Below w.heap.size w w2) := bTrans BK.out hb
        clear hb
        go_wp2
        go_ret2
        exact .inl ⟨_, _, _, rfl, NO.out, B2.out⟩
      · have YE : Hid (∀ i, i < k + 1 → takesN (E i 0) ≤ dep E i) := NX.out (by omega)
        clear NX BX
        have hw : IntKind.i64.wrap (D + (1 - z)) = D1 := by rw [ED.out, IntKind.wrap_i64]; omega
        go_wp2_with fail
        refine CT.out.mono ?_
        rintro r w2 ⟨rfl, hb⟩
        have B2 : Hid (Below w.heap.size w w2) := bTrans BK.out hb
        obtain ⟨a5, c5, w5, hr, h5, hb5⟩ := grow1 D1 (NK.out.keep hb) B2.out.size (by rw [LL.out]; omega)
        rw [LL.out] at hr h5
        rw [← EL.out] at h5
        have R5 : Hid ((Builtin.append_ #[36, 36] 36 #[.slice ad (k + 1) cd, .slice (some ⟨w2.heap.size, 0, none⟩) 1 1]).run Try.prog (w2.alloc (.cells #[.int .i64 D1] 3)) = .ok (.slice a5 (k + 1 + 1) c5) w5) := hr
        have N5 : Hid (NewInts w.heap.size w5 (.slice a5 (k + 1 + 1) c5) (deps E (k + 1))) := h5
        have B5 : Hid (Below w.heap.size w w5) := B2.out.trans hb5
        clear hr h5 hb5 hb
        go_wp2_with (at_builtin; refine wpList_append_ty rfl _ _ 36 36 rfl _ _ _ rfl rfl R5.out ?_)
        go_roundw
        case rel => exact ⟨k + 1, _, _, by omega, rfl, by rw [HD1.out], by go_num, YE.out, N5.out, B5.out⟩
        case measure => simp [intOf]; omega
    · obtain rfl : k = n := by omega
      go_wp2
      go_ret2
      refine .inr ⟨_, _, rfl, HA.out, ?_, BK.out⟩
      obtain ⟨_, _, ev, _, hi⟩ := NK.out.piece.intsI
      rw [deps_len] at ev
      cases ev
      exact hi
set_option maxRecDepth 20000 in
set_option maxHeartbeats 8000000 in
/-- The specification's CodeOk. -/
theorem codeOk_spec {w : World} {v : Value} {n : Nat} {E : Nat → Nat → Int} {N : Nat → List Int} (h : InsI w v n E N) (hl : ∀ i, (N i).length ≤ 1048576) (hn : n ≤ 1048576) :
    Calls Try.prog 14 #[v] w fun r w' => r = .returned (.bool (codeB n E N)) ∧ Below w.heap.size w w' := by
  have H : Hid (InsI w v n E N) := h
  have HL : Hid (∀ i, (N i).length ≤ 1048576) := hl
  clear hl
  obtain ⟨a, c, rfl, _⟩ := h
  by_cases hc : 1 ≤ n ∧ n ≤ 60
  · have hq : (decide ((1 : Int) ≤ (n : Int)) && decide ((n : Int) ≤ 60)) = true := by simp; omega
    have GD : Hid ((∀ i, i < n → insB (E i) (N i) = true) → (∀ i, i < n → takesN (E i 0) ≤ dep E i) → codeB n E N = decide (dep E n = 1)) := fun h1 h2 => by
      by_cases h3 : dep E n = 1
      · rw [decide_eq_true h3]; exact codeB_true ⟨hc.1, hc.2, h1, h2, h3⟩
      · rw [decide_eq_false h3]; exact codeB_false fun h => h3 h.2.2.2.2
    have BD : Hid (∀ i, i < n → insB (E i) (N i) = false → codeB n E N = false) := fun i hi h => codeB_false fun g => by have := g.2.2.1 i hi; rw [h] at this; exact absurd this (by decide)
    have BE : Hid (¬ (∀ i, i < n → takesN (E i 0) ≤ dep E i) → codeB n E N = false) := fun h => codeB_false fun g => h g.2.2.2.1
    have LD : Hid ((deps E n).getD n 0 = dep E n) := deps_at E (by omega)
    have LN : Hid (n < (deps E n).length) := by show _ < _; rw [deps_len]; omega
    generalize codeB n E N = Q at *
    have hc1 := hc.1
    have hc2 := hc.2
    clear hc
    go_enter Try.func14, Try.ntmps14
    go_wp2_with fail
    refine (in_spec _ _ _ _).mono ?_
    rintro r w1 ⟨rfl, hw⟩
    subst w1
    rw [hq]
    go_wp2_with fail
    go_loopw [3] (fun i w' => ∃ k : Nat, k ≤ n ∧ i = .int .i64 (k : Int) ∧ (∀ i, i < k → insB (E i) (N i) = true) ∧ Below w.heap.size w w') (fun i _ => n - (intOf i).toNat)
    case atStart => exact ⟨0, by omega, rfl, fun i hi => absurd hi (by omega), Below.refl _ _⟩
    case round =>
      obtain ⟨k, hk, rfl, hA, hb⟩ := hrel
      have HA : Hid (∀ i, i < k → insB (E i) (N i) = true) := hA
      have HB : Hid (Below w.heap.size w wr) := hb
      clear hA hb
      by_cases hlt : (k : Int) < (n : Int)
      · have L : k < n := by omega
        obtain ⟨o, off, xa, xc, rfl, ho, ⟨p0, p1, p2, p3, p4, p5⟩, ar⟩ := (H.out.keep HB.out).at L
        have CI : Hid (Calls Try.prog 25 #[.agg #[.int .i64 (E k 0), .int .i64 (E k 1), .int .i64 (E k 2), .int .i64 (E k 3), .int .i64 (E k 4), .slice xa (N k).length xc]] wr fun r w' => r = .returned (.bool (insB (E k) (N k))) ∧ Below wr.heap.size wr w') := ins_spec (E k) ar (HL.out k)
        have NX : Hid (insB (E k) (N k) = true → ∀ i, i < k + 1 → insB (E i) (N i) = true) := fun h i hi => by
          by_cases e : i = k
          · rw [e]; exact h
          · exact HA.out i (by omega)
        have BX : Hid (insB (E k) (N k) = false → Q = false) := BD.out k L
        clear ho ar
        generalize insB (E k) (N k) = q at *
        generalize E k 0 = q0 at *
        generalize E k 1 = q1 at *
        generalize E k 2 = q2 at *
        generalize E k 3 = q3 at *
        generalize E k 4 = q4 at *
        generalize (N k).length = nl at *
        cases q
        · have QF : Hid (Q = false) := BX.out rfl
          clear NX BX
          go_wp2_with fail
          refine CI.out.mono ?_
          rintro r w2 ⟨rfl, hb⟩
          have B2 : Hid (Below w.heap.size w w2) := bTrans HB.out hb
          clear hb
          go_wp2
          go_ret
          exact ⟨by rw [QF.out]; rfl, B2.out⟩
        · have NY : Hid (∀ i, i < k + 1 → insB (E i) (N i) = true) := NX.out rfl
          clear NX BX
          go_wp2_with fail
          refine CI.out.mono ?_
          rintro r w2 ⟨rfl, hb⟩
          have B2 : Hid (Below w.heap.size w w2) := bTrans HB.out hb
          clear hb
          go_wp2
          go_roundw
          case rel => exact ⟨k + 1, by omega, by go_num, NY.out, B2.out⟩
          case measure => simp [intOf]; omega
      · obtain rfl : k = n := by omega
        go_wp2_with fail
        refine (depths_spec (H.out.keep HB.out) hc2).mono ?_
        rintro r w2 (⟨ad, j, cd, rfl, hno, hb⟩ | ⟨ad, cd, rfl, hye, hi, hb⟩)
        · have QF : Hid (Q = false) := BE.out hno
          have B2 : Hid (Below w.heap.size w w2) := bTrans HB.out hb
          clear hb hno
          go_wp2
          go_ret
          exact ⟨by rw [QF.out]; rfl, B2.out⟩
        · have QT : Hid (Q = decide (dep E k = 1)) := GD.out HA.out hye
          have B2 : Hid (Below w.heap.size w w2) := bTrans HB.out hb
          obtain ⟨b1, o1, rfl, _, c1⟩ := hi.at LN.out
          rw [LD.out] at c1
          clear hb hye hi
          generalize dep E k = D at *
          have hkk : (k : Int) < ((k + 1 : Nat) : Int) := by omega
          go_wp2
          all_goals
            go_ret
            refine ⟨ret_bool ?_, B2.out⟩
            rw [QT.out]
            first | rfl | (simp_all; done) | (rw [Bool.eq_iff_iff]; simp)
  · have hq : (decide ((1 : Int) ≤ (n : Int)) && decide ((n : Int) ≤ 60)) = false := by
      cases hz : (decide ((1 : Int) ≤ (n : Int)) && decide ((n : Int) ≤ 60))
      · rfl
      · simp at hz; omega
    rw [codeB_false (fun h => hc ⟨h.1, h.2.1⟩)]
    clear hc
    go_enter Try.func14, Try.ntmps14
    go_wp2_with fail
    refine (in_spec _ _ _ _).mono ?_
    rintro r w1 ⟨rfl, hw⟩
    subst w1
    rw [hq]
    go_wp2
    go_ret
    exact ⟨rfl, Below.refl _ _⟩
end Go.Proofs.Ytpommfkbkknjaaa
