/-
  Proved: whatever list it is given, the law FnExactSizeOf returns true (the program's SizeOf answers as the specification's and writes into no argument), and the list reads as before. No condition.
-/
import Derived.Test.YtpjmnblkbejdlalRows
import Derived.WalkKit
import Derived.ProofKit
import Derived.OpenShut
import Derived.ShutString
import Derived.ChangeOld
import Derived.Below
import Derived.Test.YtpjmnblkbejdlalImplShape
import Derived.Test.YtpjmnblkbejdlalSpecPlace
namespace Go.Proofs.Ytpjmnblkbejdlal.fnExactSizeOf
open Go.ChangeShapes Go.WideShapes Go.ChangeAt Go.RowKit
open Go.ChangeMaps (open_string shut_string)
set_option linter.unusedVariables false

theorem own : ownKnob Try.prog.godebug = none := by kernel_rfl
theorem laidOut : laidOutB Try.prog = true := by kernel_rfl

/-! ### STEP 1: THE WALK: the Go text returns true, AND WRITES NOTHING THAT WAS THERE: 'Below w.heap.size w w'' (Derived/Below.lean: '.refl', '.alloc', '.drew', '.setCell' at a new block, '.trans'). Open each 'IsRow' by 'rcases' AHEAD of 'go_enter'; part every test ahead of the walk. -/
set_option maxRecDepth 20000 in
set_option maxHeartbeats 8000000 in
theorem walk (a0 : Option Addr) (len0 cap0 : Nat) (z0 : List Int) (w : World) (w0 : IsRow .i64 w a0 len0 cap0 z0) :
    Calls Try.prog 7 #[.slice a0 len0 cap0] w fun e w' => e = .returned (.bool true) ∧ Below w.heap.size w w' := by
  obtain ⟨l, e0, hi0⟩ := ints_of_row w0
  have H0 : Hid (Ints w a0 l) := hi0
  clear w0 hi0
  subst e0
  by_cases hbigl : (1048576 : Int) < (l.length : Int)
  · go_enter Try.func7, Try.ntmps7
    go_wp2
    go_ret
    exact ⟨rfl, Below.refl _ _⟩
  · have hll : l.length ≤ 1048576 := by omega
    go_enter Try.func7, Try.ntmps7
    go_wp2_with fail
    refine (to_ints _ hll (H0.out)).mono ?_
    rintro e w1 ⟨rfl, hw⟩
    have HB1 : Hid (Below w.heap.size w w1) := by rw [hw]; exact (Below.refl _ _).alloc (Nat.le_refl _) _
    have HI1 : Hid (Ints w1 (some ⟨w.heap.size, 0, none⟩) l) := by rw [hw]; exact ints_new w l _
    have HO1 : Hid (OwnInts w1 w.heap.size l) := by rw [hw]; exact ownInts_new w l
    clear hw
    have HT1 : Hid (Below w.heap.size w w1) := HB1.out
    go_wp2_with fail
    refine (size_spec _ HI1.out).mono ?_
    rintro e w' ⟨rfl, hw⟩
    subst w'
    go_wp2_with fail
    refine (to_ints _ hll (H0.out.keep HT1.out)).mono ?_
    rintro e w2 ⟨rfl, hw⟩
    have HB2 : Hid (Below w1.heap.size w1 w2) := by rw [hw]; exact (Below.refl _ _).alloc (Nat.le_refl _) _
    have HI2 : Hid (Ints w2 (some ⟨w1.heap.size, 0, none⟩) l) := by rw [hw]; exact ints_new w1 l _
    have HO2 : Hid (OwnInts w2 w1.heap.size l) := by rw [hw]; exact ownInts_new w1 l
    clear hw
    have HT2 : Hid (Below w.heap.size w w2) := bTrans HT1.out HB2.out
    go_wp2_with fail
    refine (size_impl _ HI2.out).mono ?_
    rintro e w3 ⟨rfl, hb⟩
    have HB3 : Hid (Below w2.heap.size w2 w3) := hb
    have HT3 : Hid (Below w.heap.size w w3) := bTrans HT2.out hb
    clear hb
    go_wp2_with fail
    refine (to_ints _ hll (H0.out.keep HT3.out)).mono ?_
    rintro e w4 ⟨rfl, hw⟩
    have HB4 : Hid (Below w3.heap.size w3 w4) := by rw [hw]; exact (Below.refl _ _).alloc (Nat.le_refl _) _
    have HI4 : Hid (Ints w4 (some ⟨w3.heap.size, 0, none⟩) l) := by rw [hw]; exact ints_new w3 l _
    have HO4 : Hid (OwnInts w4 w3.heap.size l) := by rw [hw]; exact ownInts_new w3 l
    clear hw
    have HT4 : Hid (Below w.heap.size w w4) := bTrans HT3.out HB4.out
    go_wp2_with fail
    refine (eq_ints _ _ (by omega) ((HI2.out.keep HB3.out).keep HB4.out) HI4.out).mono ?_
    rintro e w' ⟨rfl, j, rfl⟩
    go_wp2
    go_ret
    exact ⟨rfl, bDrewN HT4.out j⟩

/-! ### THE ROW's STEP: WRITTEN OUT: LEAVE IT -/
set_option maxRecDepth 100000 in
theorem lifted (os : Os) (started : os.Started) (H : Type) (enc : TypeId × Value → H) :
    ReturnsInHanded {} Try.checked os 7 .any (Rows.fnExactSizeOfSpec.pre6 enc Try.prog Try.f7 Rows.fnExactSizeOfRow.domain false) (Rows.fnExactSizeOfSpec.post enc Try.prog Try.f7 false true false false) := by
  refine returnsInHanded_of_change (C := Try.checked) own started (by kernel_rfl) Try.func7
    (ChangeSpec.witness6 (enc := enc) (C := Try.checked) false ⟨#[], #[.slice none 0 0], []⟩ 8 (by kernel_rfl) (by kernel_rfl) (by kernel_rfl) (by kernel_rfl)) ?_
  intro W base args ds gs before hval0 hW hcnd _
  have hval : ∀ (j : Nat) t v, Try.f7.params[j]? = some t → args[j]? = some v → Value.okWide Try.prog W .any base t v := hval0
  have hW' := hW
  obtain ⟨p, q, hA0, hV, rfl, hfz, hnd⟩ := hW
  have hA : DataW.TrodAll enc Try.prog W 0 (fun _ => true) true Try.f7.params.toList args.toList ds p := hA0
  rw [Try.params7] at hA hval
  obtain ⟨v0, vs0, d0, ds0, p0, q0, hargs, rfl, rfl, h0, r0⟩ := trodAll_cons hA
  obtain ⟨rfl, rfl, rfl⟩ := trodAll_nil r0
  obtain rfl : args = #[v0] := by cases args; simp_all
  obtain ⟨rfl, rfl⟩ := trodVars_none hV
  obtain ⟨a0, len0, cap0, rfl⟩ := okWide_slice Try.underlying30 (hval 0 30 v0 rfl rfl)
  have k0 := h0
  have lt0 : ∀ x ∈ p0, x.block < W.heap.size := by obtain ⟨m, hm⟩ := k0; exact DataW.trod_lt m _ _ _ hm
  obtain ⟨z0, w0⟩ : ∃ zs, IsRow .i64 W a0 len0 cap0 zs := by
    obtain ⟨fuel, hf⟩ := h0
    rcases open_ints Try.underlying30 Try.underlying3 (by kernel_rfl) hf with ⟨hcs, _⟩ | ⟨x, l, c, zs, hcs, _, hl, hm, hz, _, hcell, hwz⟩
    · simp [Value.cells] at hcs
      obtain ⟨rfl, rfl, rfl⟩ := hcs
      exact ⟨[], .inl ⟨rfl, rfl, rfl, rfl⟩⟩
    · simp [Value.cells] at hcs
      obtain ⟨rfl, rfl, rfl⟩ := hcs
      exact ⟨zs, .inr ⟨_, rfl, hl, hm, by simpa using hz, hcell, hwz⟩⟩
  clear hA0 hval0
  refine (walk a0 len0 cap0 z0 W w0).mono fun e W' ⟨he, bel⟩ => ?_
  subst he
  exact ⟨_, rfl, _, _, _, [], _, [], hW', trodAll_mk1 (shut_bool Try.underlying4 _), (trodAll_cons_mk (Below.trod laidOut (by kernel_rfl) (of_decide_eq_true (by kernel_rfl)) k0 bel lt0) trodAll_mk0), rfl, bel.frame _, fun h => by cases h⟩

theorem over : Rows.fnExactSizeOfRow.holds Try.pinned (OpenSpec.ofChange Rows.fnExactSizeOfSpec) :=
  OpenClaim.holds_of_wide 7 Try.f7 rfl rfl rfl rfl rfl rfl rfl ⟨rfl, rfl, rfl, rfl, rfl⟩ rfl rfl rfl rfl rfl (by kernel_rfl) Try.func7 (by kernel_rfl)
    (of_decide_eq_true (by kernel_rfl)) (by unfold Func.isWrapper; first | (rw [if_pos (by decide +kernel)]; kernel_rfl) | (rw [if_neg (by decide +kernel)]; exact ⟨rfl, rfl⟩))
    (fun os started H enc _ => lifted os started H enc)

/-- ████ THE STATEMENT ████ -/
theorem proved : Rows.FnExactSizeOfSaid := over
end Go.Proofs.Ytpjmnblkbejdlal.fnExactSizeOf
namespace Go.Proofs.Ytpjmnblkbejdlal
theorem fnExactSizeOf_holds : Rows.FnExactSizeOfSaid := fnExactSizeOf.proved
#print axioms fnExactSizeOf_holds
end Go.Proofs.Ytpjmnblkbejdlal
