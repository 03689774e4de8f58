/-
  Walks: TokenOk, the specification's and the program's, whatever it is given; toToken.
-/
import Derived.Test.YtnebjnglcfebeaaDoorTokSign
import Derived.Test.YtnebjnglcfebeaaDoorNumOk
namespace Go.Proofs.YtnebjnglcfebeaaDoor
open Go.RowKit
set_option linter.unusedVariables false
theorem cell_newT (w : World) (cs : Array Value) (t : TypeId) {k : Nat} {v : Value} (h : cs[k]? = some v) : (w.alloc (.cells cs t)).cell? ⟨w.heap.size, k, none⟩ = some v := by
  rw [World.cell?_alloc_at _ _ _ _ rfl]; exact h
theorem tok1 (v : Int) : tokB 1 v = ok v := rfl
theorem tok2 (v : Int) : tokB 2 v = (decide (0 ≤ v) && decide (v ≤ 25)) := rfl
theorem tok3 (v : Int) : tokB 3 v = signB v := rfl
theorem tok4 {k : Int} (h : k = 4 ∨ k = 5 ∨ k = 6) (v : Int) : tokB k v = (v == 0) := by
  unfold tokB
  rw [if_neg (by omega), if_neg (by omega), if_neg (by omega), if_pos h]
theorem tok5 {k : Int} (h : k < 1 ∨ 6 < k) (v : Int) : tokB k v = false := by
  unfold tokB
  rw [if_neg (by omega), if_neg (by omega), if_neg (by omega), if_neg (by omega)]
theorem tokKinds (k : Int) : k = 1 ∨ k = 2 ∨ k = 3 ∨ k = 4 ∨ k = 5 ∨ k = 6 ∨ (k < 1 ∨ 6 < k) := by omega
set_option maxRecDepth 20000 in
set_option maxHeartbeats 2000000 in
/-- The specification's TokenOk. -/
theorem tokOk_spec (k v : Int) (w : World) : Calls Tryd.prog 33 #[.agg #[.int .i64 k, .int .i64 v]] w fun e w' => e = .returned (.bool (tokB k v)) ∧ Below w.heap.size w w' := by
  obtain ⟨q, hq⟩ : ∃ q, q = tokB k v := ⟨_, rfl⟩
  rw [← hq]
  rcases tokKinds k with rfl | rfl | rfl | rfl | rfl | rfl | hk
  · have HQ : Hid (q = ok v) := hq
    clear hq
    go_enter Tryd.func33, Tryd.ntmps33
    go_wp2_with (go_at_call 54; refine (numOk_spec _ _).mono ?_; rintro r w1 ⟨rfl, hw⟩; subst w1; rw [← HQ.out])
    go_ret
    exact ⟨rfl, bAlloc (Below.refl _ _) _⟩
  · have HQ : Hid (q = (decide (0 ≤ v) && decide (v ≤ 25))) := hq
    clear hq
    go_enter Tryd.func33, Tryd.ntmps33
    go_wp2_with (go_at_call 48; refine (in_spec _ _ _ _).mono ?_; rintro r w1 ⟨rfl, hw⟩; subst w1; rw [← HQ.out])
    go_ret
    exact ⟨rfl, bAlloc (Below.refl _ _) _⟩
  · have HQ : Hid (q = signB v) := hq
    clear hq
    go_enter Tryd.func33, Tryd.ntmps33
    go_wp2_with (go_at_call 49; refine (sign_spec _ _).mono ?_; rintro r w1 ⟨rfl, hw⟩; subst w1; rw [← HQ.out])
    go_ret
    exact ⟨rfl, bAlloc (Below.refl _ _) _⟩
  iterate 3
    · have HQ : Hid (q = (v == 0)) := hq.trans (tok4 (by omega) v)
      clear hq
      go_enter Tryd.func33, Tryd.ntmps33
      go_wp2
      go_ret
      exact ⟨by rw [HQ.out]; rfl, bAlloc (Below.refl _ _) _⟩
  · have HQ : Hid (q = false) := hq.trans (tok5 hk v)
    clear hq
    have h1 : (k == 1) = false := by simp; omega
    have h2 : (k == 2) = false := by simp; omega
    have h3 : (k == 3) = false := by simp; omega
    have h4 : (k == 4) = false := by simp; omega
    have h5 : (k == 5) = false := by simp; omega
    have h6 : (k == 6) = false := by simp; omega
    go_enter Tryd.func33, Tryd.ntmps33
    go_wp2
    go_ret
    exact ⟨by rw [HQ.out]; rfl, bAlloc (Below.refl _ _) _⟩
set_option maxRecDepth 20000 in
set_option maxHeartbeats 2000000 in
/-- The program's TokenOk. -/
theorem tokOk_impl (k v : Int) (w : World) : Calls Tryd.prog 40 #[.agg #[.int .i64 k, .int .i64 v]] w fun e w' => e = .returned (.bool (tokB k v)) ∧ Below w.heap.size w w' := by
  obtain ⟨q, hq⟩ : ∃ q, q = tokB k v := ⟨_, rfl⟩
  rw [← hq]
  rcases tokKinds k with rfl | rfl | rfl | rfl | rfl | rfl | hk
  · have HQ : Hid (q = ok v) := hq
    clear hq
    go_enter Tryd.func40, Tryd.ntmps40
    go_wp2_with (go_at_call 58; refine (numOk_impl _ _).mono ?_; rintro r w1 ⟨rfl, hw⟩; subst w1; rw [← HQ.out])
    go_ret
    exact ⟨rfl, bAlloc (Below.refl _ _) _⟩
  · have HQ : Hid (q = (decide (0 ≤ v) && decide (v ≤ 25))) := hq
    clear hq
    go_enter Tryd.func40, Tryd.ntmps40
    go_wp2_with (go_at_call 59; refine (letter_impl _ _).mono ?_; rintro r w1 ⟨rfl, hw⟩; subst w1; rw [← HQ.out])
    go_ret
    exact ⟨rfl, bAlloc (Below.refl _ _) _⟩
  · have HQ : Hid (q = signB v) := hq
    clear hq
    go_enter Tryd.func40, Tryd.ntmps40
    go_wp2_with fail
    refine (sign_impl _ _).mono ?_
    rintro r w1 ⟨rfl, hb⟩
    have HB : Hid (Below w.heap.size w w1) := bTrans (bAlloc (Below.refl _ _) _) hb
    clear hb
    rw [← HQ.out]
    go_wp2
    go_ret
    exact ⟨rfl, HB.out⟩
  iterate 3
    · have HQ : Hid (q = (v == 0)) := hq.trans (tok4 (by omega) v)
      clear hq
      go_enter Tryd.func40, Tryd.ntmps40
      go_wp2
      go_ret
      exact ⟨by rw [HQ.out]; rfl, bAlloc (Below.refl _ _) _⟩
  · have HQ : Hid (q = false) := hq.trans (tok5 hk v)
    clear hq
    have h1 : (k == 1) = false := by simp; omega
    have h2 : (k == 2) = false := by simp; omega
    have h3 : (k == 3) = false := by simp; omega
    have h4 : (k == 4) = false := by simp; omega
    have h5 : (k == 5) = false := by simp; omega
    have h6 : (k == 6) = false := by simp; omega
    go_enter Tryd.func40, Tryd.ntmps40
    go_wp2
    go_ret
    exact ⟨by rw [HQ.out]; rfl, bAlloc (Below.refl _ _) _⟩
set_option maxRecDepth 20000 in
set_option maxHeartbeats 2000000 in
/-- toToken. -/
theorem toTok (k v : Int) (w : World) : Calls Tryd.prog 19 #[.agg #[.int .i64 k, .int .i64 v]] w fun e w' => e = .returned (.agg #[.int .i64 k, .int .i64 v]) ∧ Below w.heap.size w w' := by
  go_enter Tryd.func19, Tryd.ntmps19
  go_wp2
  exact bodyPost_ret (v := .agg #[.int .i64 k, .int .i64 v]) (by simp [results, Tryd.results19, go_sem]) rfl ⟨rfl, bAlloc (bAlloc (bAlloc (Below.refl _ _) _) _) _⟩
end Go.Proofs.YtnebjnglcfebeaaDoor
