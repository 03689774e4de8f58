/-
  Walks: the specification's l11Takes, l9Nums, l11Instr.
-/
import Derived.Test.YtpommfkbkknjaaaCodeM
import Derived.Test.YtpommfkbkknjaaaCodeQ
import Derived.Test.YtpommfkbkknjaaaFunOk
import Derived.Test.YtpommfkbkknjaaaNumOk
import Derived.Test.YtpommfkbkknjaaaArrM
namespace Go.Proofs.Ytpommfkbkknjaaa
open Go.RowKit
set_option linter.unusedVariables false
set_option linter.unusedSimpArgs false
set_option maxRecDepth 20000 in
set_option maxHeartbeats 4000000 in
/-- l11Takes. -/
theorem takes_spec (e0 e1 e2 e3 e4 : Int) (xa : Option Addr) (n c : Nat) (w : World) :
    Calls Try.prog 28 #[.agg #[.int .i64 e0, .int .i64 e1, .int .i64 e2, .int .i64 e3, .int .i64 e4, .slice xa n c]] w fun r w' => r = .returned (.tuple #[.int .i64 (takesN e0), .int .i64 (1 - takesN e0)]) ∧ Below w.heap.size w w' := by
  by_cases h1 : e0 = 1
  · subst h1
    go_enter Try.func28, Try.ntmps28
    go_wp2
    go_ret2
    exact ⟨rfl, bAlloc (Below.refl _ _) _⟩
  by_cases h2 : e0 = 2
  · subst h2
    go_enter Try.func28, Try.ntmps28
    go_wp2
    go_ret2
    exact ⟨rfl, bAlloc (Below.refl _ _) _⟩
  by_cases h5 : e0 = 5
  · subst h5
    go_enter Try.func28, Try.ntmps28
    go_wp2
    go_ret2
    exact ⟨rfl, bAlloc (Below.refl _ _) _⟩
  have T : Hid (takesN e0 = 1) := by show _ = _; unfold takesN; rw [if_neg (by omega), if_neg (by omega)]
  have b1 : (e0 == 1) = false := by simpa using h1
  have b2 : (e0 == 2) = false := by simpa using h2
  have b5 : (e0 == 5) = false := by simpa using h5
  go_enter Try.func28, Try.ntmps28
  go_wp2
  go_ret2
  exact ⟨by rw [T.out]; rfl, bAlloc (Below.refl _ _) _⟩
set_option maxRecDepth 20000 in
set_option maxHeartbeats 4000000 in
/-- l9Nums. -/
theorem nums9_spec {l : List Int} {w : World} {a : Option Addr} (c : Nat) (h : Ints w a l) (hl : l.length ≤ 1048576) :
    Calls Try.prog 36 #[.slice a l.length c] w fun e w' => e = .returned (.bool (numsB l)) ∧ w' = w := by
  have H : Hid (Ints w a l) := h
  clear h
  have HG : Hid (l.all ok = true → numsB l = (decide (1 ≤ (l.length : Int)) && decide ((l.length : Int) ≤ 300))) := fun h => by
    unfold numsB
    rw [h, Bool.and_true, Bool.eq_iff_iff]
    simp
    omega
  have HF : Hid (l.all ok = false → numsB l = false) := fun h => by unfold numsB; rw [h, Bool.and_false]
  generalize numsB l = Q at *
  go_enter Try.func36, Try.ntmps36
  go_wp2
  go_loopw [3] (fun i w' => ∃ k : Nat, k ≤ l.length ∧ i = .int .i64 (k : Int) ∧ (l.take k).all ok = true ∧ w' = w) (fun i _ => l.length - (intOf i).toNat)
  case atStart => exact ⟨0, by omega, rfl, by simp, rfl⟩
  case round =>
    obtain ⟨k, hk, rfl, ht, hw⟩ := hrel
    subst hw
    have HT : Hid ((l.take k).all ok = true) := ht
    clear ht
    by_cases hlt : (k : Int) < (l.length : Int)
    · have L : k < l.length := by omega
      obtain ⟨b1, o1, rfl, _, c1⟩ := H.out.at L
      have d1 : wr.cell? ⟨b1, o1 + k, none⟩ = some (.int .i64 (l.getD k 0)) := c1
      have QT : Hid ((l.take (k + 1)).all ok = ((l.take k).all ok && ok (l.getD k 0))) := by show _ = _; rw [take_snoc L, all_snocN]
      have QB : Hid (ok (l.getD k 0) = false → Q = false) := fun h => HF.out (by
        rw [List.all_eq_false]
        exact ⟨l.getD k 0, by simp [L], by rw [h]; decide⟩)
      clear c1 L
      generalize l.getD k 0 = x at d1 QT QB
      cases hx : ok x
      · have QF : Hid (Q = false) := QB.out hx
        clear QT QB
        go_wp2_with fail
        refine (numOk_spec x _).mono ?_
        rintro r w' ⟨rfl, hw⟩
        subst w'
        rw [hx]
        go_wp2
        go_ret
        exact ⟨by rw [QF.out]; rfl, rfl⟩
      · have HT' : Hid ((l.take (k + 1)).all ok = true) := by show _ = _; rw [QT.out, HT.out, hx]; rfl
        clear QT QB
        go_wp2_with fail
        refine (numOk_spec x _).mono ?_
        rintro r w' ⟨rfl, hw⟩
        subst w'
        rw [hx]
        go_wp2
        go_roundw
        case rel => exact ⟨k + 1, by omega, by go_num, HT'.out, trivial⟩
        case measure => simp [intOf]; omega
    · obtain rfl : k = l.length := by omega
      have QG : Hid (Q = (decide (1 ≤ (l.length : Int)) && decide ((l.length : Int) ≤ 300))) := HG.out (by have := HT.out; rwa [List.take_length] at this)
      go_wp2_with fail
      refine (in_spec _ _ _ _).mono ?_
      rintro r w' ⟨rfl, hw⟩
      subst w'
      go_wp2
      go_ret
      exact ⟨by rw [QG.out]; rfl, rfl⟩
end Go.Proofs.Ytpommfkbkknjaaa
