/-
  Walks: the specification's CodeDeep.
-/
import Derived.Test.YtnkajokecfalnaaCodeS3
namespace Go.Proofs.Ytnkajokecfalnaa
open Go.RowKit
set_option linter.unusedVariables false
set_option linter.unusedSimpArgs false
theorem mxDep_step (E : Nat → Nat → Int) (k : Nat) : mx (mxDep E (k - 1)) (dep E k) = mxDep E k := by
  cases k with
  | zero => simp [mxDep, dep, mx]
  | succ k => rfl
set_option maxRecDepth 20000 in
set_option maxHeartbeats 8000000 in
/-- The specification's CodeDeep. -/
theorem deep_spec {w : World} {v : Value} {n : Nat} {E : Nat → Nat → Int} {N : Nat → List Int} (h : InsI w v n E N) (hl : ∀ i, (N i).length ≤ 1048576) (hn : n ≤ 1048576) :
    Calls Try.prog 10 #[v] w fun r w' => r = .returned (.int .i64 (deepV n E N)) ∧ Below w.heap.size w w' := by
  have H : Hid (InsI w v n E N) := h
  have CO : Hid (Calls Try.prog 6 #[v] w fun r w' => r = .returned (.bool (codeB n E N)) ∧ Below w.heap.size w w') := codeOk_spec h hl hn
  clear hl
  obtain ⟨a, c, rfl, _⟩ := h
  cases hc : codeB n E N
  · have QV : Hid (deepV n E N = 0) := by show _ = _; simp [deepV, hc]
    rw [hc] at CO
    generalize deepV n E N = Q at *
    clear hc
    go_enter Try.func10, Try.ntmps10
    go_wp2_with fail
    refine CO.out.mono ?_
    rintro r w1 ⟨rfl, hb⟩
    have B1 : Hid (Below w.heap.size w w1) := hb
    clear hb
    go_wp2
    go_ret
    exact ⟨by rw [QV.out]; rfl, B1.out⟩
  · have QV : Hid (deepV n E N = mxDep E n) := by show _ = _; simp [deepV, hc]
    have hp := codeB_iff.1 hc
    have hn60 : n ≤ 60 := hp.2.1
    have YES : Hid (∀ i, i < n → takesN (E i 0) ≤ dep E i) := hp.2.2.2.1
    rw [hc] at CO
    generalize deepV n E N = Q at *
    clear hc hp
    go_enter Try.func10, Try.ntmps10
    go_wp2_with fail
    refine CO.out.mono ?_
    rintro r w1 ⟨rfl, hb⟩
    have B1 : Hid (Below w.heap.size w w1) := hb
    clear hb
    go_wp2_with fail
    refine (depths_spec (H.out.keep B1.out) hn60).mono ?_
    rintro r w2 (⟨ad, j, cd, rfl, hno, hb⟩ | ⟨ad, cd, rfl, hye, hi, hb⟩)
    · exact absurd YES.out hno
    have B2 : Hid (Below w.heap.size w w2) := bTrans B1.out hb
    have I2 : Hid (Ints w2 ad (deps E n)) := hi
    clear hb hye hi CO B1
    go_wp2_with fail
    go_loopw [5, 6] (fun m i w' => ∃ k : Nat, k ≤ n + 1 ∧ m = .int .i64 (mxDep E (k - 1)) ∧ i = .int .i64 (k : Int) ∧ w' = w2) (fun _ i _ => n + 1 - (intOf i).toNat)
    case atStart => exact ⟨0, by omega, rfl, rfl, rfl⟩
    case round =>
      obtain ⟨k, hk, rfl, rfl, hw⟩ := hrel
      subst hw
      by_cases hlt : (k : Int) < ((n + 1 : Nat) : Int)
      · have L : k < (deps E n).length := by rw [deps_len]; omega
        obtain ⟨b1, o1, rfl, _, c1⟩ := I2.out.at L
        rw [deps_at E (by omega)] at c1
        have MS : Hid (mx (mxDep E (k - 1)) (dep E k) = mxDep E (k + 1 - 1)) := mxDep_step E k
        clear L
        generalize mxDep E (k - 1) = M at *
        generalize dep E k = D at *
        go_wp2_with (go_at_call 18; refine (max_spec _ _ _).mono ?_; rintro r w3 ⟨rfl, hw⟩; subst w3; rw [MS.out])
        go_roundw
        case rel => exact ⟨k + 1, by omega, rfl, by go_num, trivial⟩
        case measure => simp [intOf]; omega
      · obtain rfl : k = n + 1 := by omega
        have EE : n + 1 - 1 = n := by omega
        go_wp2
        go_ret
        exact ⟨by rw [QV.out]; rfl, B2.out⟩
end Go.Proofs.Ytnkajokecfalnaa
