/-
  Walks: the program's ShowRow.
-/
import Derived.Test.YtcaidhmolnnikaaDoorRowI
namespace Go.Proofs.YtcaidhmolnnikaaDoor
open Go.RowKit
set_option linter.unusedVariables false
set_option linter.unusedSimpArgs false
theorem jn_nil : jn [] = ⟨#[]⟩ := rfl
theorem rowB_jn (l : List Int) : ∀ k, rowB l k = jn ((List.range k).map fun i => digB (l.getD i 0))
  | 0 => rfl
  | k + 1 => by
    rw [List.range_succ, List.map_append, List.map_cons, List.map_nil, jn_snoc]
    simp only [rowB, rowB_jn l k]
    by_cases h : k = 0
    · subst h; rfl
    · rw [if_neg h, if_neg (by simp [h])]
theorem wds_zero (l : List Int) : wds 0 l = (List.range l.length).map fun i => digB (l.getD i 0) := by
  unfold wds
  apply List.map_congr_left
  intro i _
  rw [padB_zero]
theorem asCome_impl (a : Option Addr) (n c : Nat) (w : World) : Calls Tryd.prog 43 #[.slice a n c] w fun e w' => e = .returned (.int .i64 0) ∧ w' = w := by
  go_enter Tryd.func43, Tryd.ntmps43
  go_wp2
  go_ret
  exact ⟨rfl, rfl⟩
set_option maxRecDepth 20000 in
set_option maxHeartbeats 2000000 in
/-- The program's ShowRow. -/
theorem showRow_impl (HR : Reps) (HJn : Joins) {d : List Int} {b : Option Addr} {w : World} (e : Nat) (h : Ints w b d) (hd : d.length ≤ 1048576) (ht : TabW w) :
    Calls Tryd.prog 16 #[.slice b d.length e] w fun e w' => e = .returned (.string (rowV d)) ∧ Below w.heap.size w w' := by
  have CN : Hid (Calls Tryd.prog 41 #[.slice b d.length e] w fun e w' => e = .returned (.bool (d.all ok)) ∧ w' = w) := allRight_impl e h hd
  unfold rowV
  cases hall : d.all ok
  · rw [hall] at CN
    rw [if_neg (by decide)]
    clear hall h ht
    go_enter Tryd.func16, Tryd.ntmps16
    go_wp2_with fail
    refine CN.out.mono ?_
    rintro r w' ⟨rfl, hw⟩
    subst w'
    go_wp2
    go_ret
    exact ⟨rfl, Below.refl _ _⟩
  · have CL : Hid (Calls Tryd.prog 42 #[.slice b d.length e, .int .i64 0] w fun e w' => e = .returned (.string (rowB d d.length)) ∧ Below w.heap.size w w') := by
      have := lineText_impl HR HJn e h hd hall 0 (by decide) ht
      rw [wds_zero, ← rowB_jn] at this
      exact this
    rw [hall] at CN
    rw [if_pos rfl]
    obtain ⟨R, hR⟩ : ∃ R, R = rowB d d.length := ⟨_, rfl⟩
    rw [← hR] at CL ⊢
    clear hall h ht hR
    go_enter Tryd.func16, Tryd.ntmps16
    go_wp2_with fail
    refine CN.out.mono ?_
    rintro r w' ⟨rfl, hw⟩
    subst w'
    go_wp2_with fail
    refine (asCome_impl _ _ _ _).mono ?_
    rintro r w' ⟨rfl, hw⟩
    subst w'
    go_wp2_with fail
    refine CL.out.mono ?_
    rintro r w2 ⟨rfl, hb⟩
    have B2 : Hid (Below w.heap.size w w2) := hb
    clear hb CL
    go_wp2
    go_ret
    exact ⟨rfl, B2.out⟩
end Go.Proofs.YtcaidhmolnnikaaDoor
