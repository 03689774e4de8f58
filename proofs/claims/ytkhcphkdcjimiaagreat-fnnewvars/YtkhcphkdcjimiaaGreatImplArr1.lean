/-
  Walks: the program's helpers on lists of numbers: allRight, slices.Equal, copiedList.
-/
import Derived.Test.YtkhcphkdcjimiaaGreatArrM
import Derived.Test.YtkhcphkdcjimiaaGreatArr
import Derived.Test.YtkhcphkdcjimiaaGreatNumOk
import Derived.Test.YtkhcphkdcjimiaaGreatImplShape0
namespace Go.Proofs.YtkhcphkdcjimiaaGreat
open Go.RowKit
set_option linter.unusedVariables false
set_option linter.unusedSimpArgs false
set_option maxRecDepth 20000 in
set_option maxHeartbeats 1000000 in
/-- allRight. -/
theorem allRight_impl {d : List Int} {b : Option Addr} {w : World} (e : Nat) (h : Ints w b d) (hd : d.length ≤ 1048576) :
    Calls Tryz.prog 47 #[.slice b d.length e] w fun e w' => e = .returned (.bool (d.all ok)) ∧ w' = w := by
  have HJ : Hid (Ints w b d) := h
  clear h
  go_enter Tryz.func47, Tryz.ntmps47
  go_wp2
  go_loopw [7] (fun i w' => ∃ k : Nat, k ≤ d.length ∧ i = .int .i64 k ∧ (d.take k).all ok = true ∧ w' = w) (fun i _ => d.length - (intOf i).toNat)
  case atStart => exact ⟨0, by omega, rfl, by simp, rfl⟩
  case round =>
    obtain ⟨k, hk, rfl, ht, rfl⟩ := hrel
    have HT : Hid ((d.take k).all ok = true) := ht
    clear ht
    by_cases hlt : (k : Int) < (d.length : Int)
    · have L : k < d.length := by omega
      obtain ⟨b1, o1, rfl, _, c1⟩ := HJ.out.at L
      have Q : Hid ((d.take (k + 1)).all ok = ((d.take k).all ok && ok (d.getD k 0))) := by show _ = _; rw [take_snoc L, all_snocN]
      have QB : Hid (ok (d.getD k 0) = false → d.all ok = false) := fun h => by
        rw [List.all_eq_false]
        exact ⟨d.getD k 0, by simp [L], by rw [h]; decide⟩
      clear L
      generalize d.getD k 0 = x at c1 Q QB
      by_cases hx : ok x = true
      · have HT' : Hid ((d.take (k + 1)).all ok = true) := by show _ = _; rw [Q.out, HT.out, hx]; rfl
        clear Q QB
        go_wp2_with fail
        refine (numOk_impl x _).mono ?_
        rintro r w' ⟨rfl, hw⟩
        subst w'
        go_wp2
        go_roundw
        case rel => exact ⟨k + 1, by omega, by go_num, HT'.out, by first | trivial | rfl⟩
        case measure => simp [intOf]; omega
      · have hx : ok x = false := by simpa using hx
        have HV' : Hid (d.all ok = false) := QB.out hx
        clear Q QB
        go_wp2_with fail
        refine (numOk_impl x _).mono ?_
        rintro r w' ⟨rfl, hw⟩
        subst w'
        go_wp2
        go_ret
        exact ⟨by rw [HV'.out]; rfl, rfl⟩
    · have HV' : Hid (d.all ok = true) := by
        have h := HT.out
        show _ = _
        rw [List.take_of_length_le (by omega)] at h
        exact h
      go_wp2
      go_ret
      exact ⟨by rw [HV'.out]; rfl, rfl⟩
set_option maxHeartbeats 1000000 in
theorem equal_walk (l m : List Int) (a b : Option Addr) (n c d : Nat) (w : World) (hn : n ≤ 4611686018427387904) (h1 : Ints w a l) (h2 : Ints w b m) (e1 : l.length = n) (e2 : m.length = n) :
    Calls Tryz.prog 21 #[.slice a n c, .slice b n d] w fun e w' => e = .returned (.bool (decide (l = m))) ∧ ∃ j, w' = w.drewN j := by
  have H1 : Hid (Ints w a l) := h1
  have H2 : Hid (Ints w b m) := h2
  have E1 : Hid (l.length = n) := e1
  have E2 : Hid (m.length = n) := e2
  clear h1 h2 e1 e2
  go_enter Tryz.func21, Tryz.ntmps21
  go_wp2
  go_loopw [13] (fun i w' => ∃ k : Nat, k ≤ n ∧ i = .int .i64 k ∧ l.take k = m.take k ∧ ∃ j, w' = w.drewN j) (fun i _ => n - (intOf i).toNat)
  case atStart => exact ⟨0, by omega, rfl, rfl, 0, rfl⟩
  case round =>
    obtain ⟨k, hk, rfl, ht, j, rfl⟩ := hrel
    have HT : Hid (l.take k = m.take k) := ht
    clear ht
    by_cases hlt : (k : Int) < (n : Int)
    · have L1 : k < l.length := by have := E1.out; omega
      have L2 : k < m.length := by have := E2.out; omega
      obtain ⟨b1, o1, rfl, _, c1⟩ := H1.out.at L1
      obtain ⟨b2, o2, rfl, _, c2⟩ := H2.out.at L2
      have Q : Hid (l.take (k + 1) = m.take (k + 1) ↔ l.take k = m.take k ∧ l.getD k 0 = m.getD k 0) := take_eq_iff L1 L2
      have Q2 : Hid (l.getD k 0 ≠ m.getD k 0 → l ≠ m) := take_ne L1 L2
      clear L1 L2
      generalize l.getD k 0 = x at c1 Q Q2
      generalize m.getD k 0 = y at c2 Q Q2
      by_cases hxy : x = y
      · subst hxy
        have HT' : Hid (l.take (k + 1) = m.take (k + 1)) := Q.out.2 ⟨HT.out, rfl⟩
        clear Q Q2
        go_wp2
        go_quiet (fail)
        go_wp2
        go_roundw
        case rel => exact ⟨k + 1, by omega, by go_num, HT'.out, _, rfl⟩
        case measure => simp [intOf]; omega
      · have hne : (x != y) = true := by simpa using hxy
        have HN : Hid (l ≠ m) := Q2.out hxy
        clear Q Q2
        go_wp2
        go_quiet (fail)
        go_wp2
        go_ret
        exact ⟨by simp [HN.out], _, World.drewN_drewN _ _ _⟩
    · have e : Hid (l = m) := by
        have h := HT.out
        have := E1.out
        have := E2.out
        rw [List.take_of_length_le (by omega), List.take_of_length_le (by omega)] at h
        exact h
      go_wp2
      go_ret
      exact ⟨by simp [e.out], _, rfl⟩
set_option maxHeartbeats 1000000 in
theorem equal_other (l m : List Int) (a b : Option Addr) (c d : Nat) (w : World) (he : l.length ≠ m.length) :
    Calls Tryz.prog 21 #[.slice a l.length c, .slice b m.length d] w fun e w' => e = .returned (.bool (decide (l = m))) ∧ ∃ j, w' = w.drewN j := by
  have hne : l ≠ m := fun e => he (by rw [e])
  have HN : Hid (l ≠ m) := hne
  clear hne
  have he' : ((l.length : Int) != (m.length : Int)) = true := by simp; omega
  go_enter Tryz.func21, Tryz.ntmps21
  go_wp2
  go_ret
  exact ⟨by simp [HN.out], 0, rfl⟩
/-- slices.Equal at lists of numbers. -/
theorem equal_impl {l m : List Int} {a b : Option Addr} {w : World} (c d : Nat) (hn : l.length ≤ 4611686018427387904) (h1 : Ints w a l) (h2 : Ints w b m) :
    Calls Tryz.prog 21 #[.slice a l.length c, .slice b m.length d] w fun e w' => e = .returned (.bool (decide (l = m))) ∧ ∃ j, w' = w.drewN j := by
  by_cases he : l.length = m.length
  · rw [← he]
    exact equal_walk l m a b l.length c d w hn h1 h2 rfl he.symm
  · exact equal_other l m a b c d w he
end Go.Proofs.YtkhcphkdcjimiaaGreat
