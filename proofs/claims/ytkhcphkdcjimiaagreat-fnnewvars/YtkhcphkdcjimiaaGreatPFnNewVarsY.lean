/-
  Proved: whatever code it is given, the law FnNewVars returns true: the program's VarsNew gives 26 letters, right and none of them set, and Eval of the tree that is one name ends with ErValue, one step left and the letters as they were. No condition.
-/
import Derived.Test.YtkhcphkdcjimiaaGreatRows
import Derived.WalkKit
import Derived.ProofKit
import Derived.OpenShut
import Derived.ShutString
import Derived.ChangeOld
import Derived.Below
import Derived.Test.YtkhcphkdcjimiaaGreatZ1
import Derived.Test.YtkhcphkdcjimiaaGreatAtLaw0
namespace Go.Proofs.YtkhcphkdcjimiaaGreat.fnNewVars
open Go.ChangeShapes Go.WideShapes Go.ChangeAt Go.RowKit
open Go.ChangeMaps (open_string shut_string)
set_option linter.unusedVariables false
set_option linter.unusedSimpArgs false
set_option linter.unusedVariables false

theorem own : ownKnob Tryz.prog.godebug = none := by kernel_rfl
theorem laidOut : laidOutB Tryz.prog = true := by kernel_rfl

/-! ### STEP 1: THE WALK: the Go text returns true, AND WRITES NOTHING THAT WAS THERE: 'Below w.heap.size w w'' (Derived/Below.lean: '.refl', '.alloc', '.drew', '.setCell' at a new block, '.trans'). Open each 'IsRow' by 'rcases' AHEAD of 'go_enter'; part every test ahead of the walk. -/
set_option maxRecDepth 20000 in
set_option maxHeartbeats 8000000 in
theorem walk (a0 : Option Addr) (len0 cap0 : Nat) (z0 : List Int) (w : World) (w0 : IsRow .u8 w a0 len0 cap0 z0) :
    Calls Tryz.prog 3 #[.slice a0 len0 cap0] w fun e w' => e = .returned (.bool true) ∧ Below w.heap.size w w' := by
  have HS : Hid (Src w.heap.size w a0 len0) := src_of_row w0
  clear w0
  by_cases hbig : (1048576 : Int) < (len0 : Int)
  · go_enter Tryz.func3, Tryz.ntmps3
    go_wp2_with (go_at_call 4; refine (big_laws _ _ _ _).mono ?_; rintro e w' ⟨rfl, hw⟩; subst w')
    go_ret
    exact ⟨rfl, Below.refl _ _⟩
  have hb20 : len0 ≤ 1048576 := by omega
  obtain ⟨y, y0, y1, hat⟩ := at_law cap0 HS.out hb20
  have AT : Hid (∀ W, Below w.heap.size w W → Calls Tryz.prog 6 #[.slice a0 len0 cap0, .int .i64 1] W fun e w' => e = .returned (.int .i64 y) ∧ w' = W) := hat
  obtain ⟨K, hK⟩ : ∃ K : Nat, K = y.toNat % 26 := ⟨_, rfl⟩
  have K26 : K < 26 := by omega
  have et : y.tmod 26 = (K : Int) := by rw [Int.tmod_eq_emod_of_nonneg y0]; omega
  clear hat hK
  go_enter Tryz.func3, Tryz.ntmps3
  go_wp2_with (go_at_call 4; refine (big_laws _ _ _ _).mono ?_; rintro e w' ⟨rfl, hw⟩; subst w')
  refine (varsNew_impl _).mono ?_
  rintro e w1 ⟨o, rfl, hv, ho, hb⟩
  have B1 : Hid (Below w.heap.size w w1) := hb
  have V1 : Hid (VarB w1 o (fun _ => false)) := hv
  clear hv ho hb hbig
  go_wp2_with fail
  refine (AT.out _ B1.out).mono ?_
  rintro e w2 ⟨rfl, hw⟩
  subst w2
  clear AT
  go_wp2_with fail
  refine (eval_name K26 (heap_alloc_new w1 _) (V1.out.keep (bAlloc (Below.refl _ _) _))).mono ?_
  rintro e w3 ⟨o3, rfl, hv, hb⟩
  have B13 : Hid (Below w1.heap.size w1 w3) := bTrans (bAlloc (Below.refl _ _) _) hb
  have V3 : Hid (VarsI w3 (.slice (some ⟨o3, 0, none⟩) 26 26) 26 (fun _ => false) (fun _ => []) (fun _ => [])) := hv
  clear hv hb
  go_wp2_with fail
  generalize hW : w3.alloc (.cells #[.slice none 0 0, .slice none 0 0] 29) = w4
  have B34 : Hid (Below w3.heap.size w3 w4) := by rw [← hW]; exact bAlloc (Below.refl _ _) _
  have B14 : Hid (Below w1.heap.size w1 w4) := B13.out.trans (B34.out.mono B13.out.size)
  clear hW
  have CV : Calls Tryz.prog 8 #[.slice (some ⟨o, 0, none⟩) 26 26] w4 fun r w' => r = .returned (.bool true) ∧ Below w4.heap.size w4 w' := by
    have := varsOk_impl ((V1.out.keep B14.out).vnone.varsI (c := 26)) (fun _ => by simp) (by omega)
    rw [none_vars] at this
    exact this
  refine CV.mono ?_
  rintro e w5 ⟨rfl, hb⟩
  have B15 : Hid (Below w1.heap.size w1 w5) := B14.out.trans (hb.mono B14.out.size)
  have B35 : Hid (Below w3.heap.size w3 w5) := B34.out.trans (hb.mono B34.out.size)
  have v0 := (V1.out.keep B15.out).c0 K26
  clear hb CV
  go_wp2_with fail
  refine (sameVars_same (V3.out.keep B35.out) ((V1.out.keep B15.out).vnone.varsI (c := 26)) (fun _ => by simp) (by omega)).mono ?_
  rintro e w6 ⟨rfl, hb⟩
  have B16 : Hid (Below w1.heap.size w1 w6) := B15.out.trans (hb.mono B15.out.size)
  clear hb
  go_wp2
  go_ret
  exact ⟨rfl, B1.out.trans (B16.out.mono B1.out.size)⟩

/-! ### THE ROW's STEP: WRITTEN OUT: LEAVE IT -/
set_option maxRecDepth 100000 in
theorem lifted (os : Os) (started : os.Started) (H : Type) (enc : TypeId × Value → H) :
    ReturnsInHanded {} Tryz.checked os 3 .any (Rows.fnNewVarsSpec.pre6 enc Tryz.prog Tryz.f3 Rows.fnNewVarsRow.domain false) (Rows.fnNewVarsSpec.post enc Tryz.prog Tryz.f3 false true false false) := by
  refine returnsInHanded_of_change (C := Tryz.checked) own started (by kernel_rfl) Tryz.func3
    (ChangeSpec.witness6 (enc := enc) (C := Tryz.checked) false ⟨#[], #[.slice none 0 0], []⟩ 8 (by kernel_rfl) (by kernel_rfl) (by kernel_rfl) (by kernel_rfl)) ?_
  intro W base args ds gs before hval0 hW hcnd _
  have hval : ∀ (j : Nat) t v, Tryz.f3.params[j]? = some t → args[j]? = some v → Value.okWide Tryz.prog W .any base t v := hval0
  have hW' := hW
  obtain ⟨p, q, hA0, hV, rfl, hfz, hnd⟩ := hW
  have hA : DataW.TrodAll enc Tryz.prog W 0 (fun _ => true) true Tryz.f3.params.toList args.toList ds p := hA0
  rw [Tryz.params3] at hA hval
  obtain ⟨v0, vs0, d0, ds0, p0, q0, hargs, rfl, rfl, h0, r0⟩ := trodAll_cons hA
  obtain ⟨rfl, rfl, rfl⟩ := trodAll_nil r0
  obtain rfl : args = #[v0] := by cases args; simp_all
  obtain ⟨rfl, rfl⟩ := trodVars_none hV
  obtain ⟨a0, len0, cap0, rfl⟩ := okWide_slice Tryz.underlying22 (hval 0 22 v0 rfl rfl)
  have k0 := h0
  have lt0 : ∀ x ∈ p0, x.block < W.heap.size := by obtain ⟨m, hm⟩ := k0; exact DataW.trod_lt m _ _ _ hm
  obtain ⟨z0, w0⟩ : ∃ zs, IsRow .u8 W a0 len0 cap0 zs := by
    obtain ⟨fuel, hf⟩ := h0
    rcases open_ints Tryz.underlying22 Tryz.underlying5 (by kernel_rfl) hf with ⟨hcs, _⟩ | ⟨x, l, c, zs, hcs, _, hl, hm, hz, _, hcell, hwz⟩
    · simp [Value.cells] at hcs
      obtain ⟨rfl, rfl, rfl⟩ := hcs
      exact ⟨[], .inl ⟨rfl, rfl, rfl, rfl⟩⟩
    · simp [Value.cells] at hcs
      obtain ⟨rfl, rfl, rfl⟩ := hcs
      exact ⟨zs, .inr ⟨_, rfl, hl, hm, by simpa using hz, hcell, hwz⟩⟩
  clear hA0 hval0
  refine (walk a0 len0 cap0 z0 W w0).mono fun e W' ⟨he, bel⟩ => ?_
  subst he
  exact ⟨_, rfl, _, _, _, [], _, [], hW', trodAll_mk1 (shut_bool Tryz.underlying4 _), (trodAll_cons_mk (Below.trod laidOut (by kernel_rfl) (of_decide_eq_true (by kernel_rfl)) k0 bel lt0) trodAll_mk0), rfl, bel.frame _, fun h => by cases h⟩

theorem over : Rows.fnNewVarsRow.holds Tryz.pinned (OpenSpec.ofChange Rows.fnNewVarsSpec) :=
  OpenClaim.holds_of_wide 3 Tryz.f3 rfl rfl rfl rfl rfl rfl rfl ⟨rfl, rfl, rfl, rfl, rfl⟩ rfl rfl rfl rfl rfl (by kernel_rfl) Tryz.func3 (by kernel_rfl)
    (of_decide_eq_true (by kernel_rfl)) (by unfold Func.isWrapper; first | (rw [if_pos (by decide +kernel)]; kernel_rfl) | (rw [if_neg (by decide +kernel)]; exact ⟨rfl, rfl⟩))
    (fun os started H enc _ => lifted os started H enc)

/-- ████ THE STATEMENT ████ -/
theorem proved : Rows.FnNewVarsSaid := over
end Go.Proofs.YtkhcphkdcjimiaaGreat.fnNewVars
namespace Go.Proofs.YtkhcphkdcjimiaaGreat
theorem fnNewVars_holds : Rows.FnNewVarsSaid := fnNewVars.proved
#print axioms fnNewVars_holds
end Go.Proofs.YtkhcphkdcjimiaaGreat
