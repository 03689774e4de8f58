/-
  Proved: whatever two lists it is given, the law FnExactShapeSame returns true (the program's ShapeSame answers as the specification's and writes into no argument), and the lists read as before. No condition.
-/
import Derived.Test.YtpjmnblkbejdlamRows
import Derived.WalkKit
import Derived.ProofKit
import Derived.OpenShut
import Derived.ShutString
import Derived.ChangeOld
import Derived.Below
import Derived.Test.YtpjmnblkbejdlamImplSame
import Derived.Test.YtpjmnblkbejdlamSpecSame
namespace Go.Proofs.Ytpjmnblkbejdlam.fnExactShapeSame
open Go.ChangeShapes Go.WideShapes Go.ChangeAt Go.RowKit
open Go.ChangeMaps (open_string shut_string)
set_option linter.unusedVariables false

theorem own : ownKnob Try.prog.godebug = none := by kernel_rfl
theorem laidOut : laidOutB Try.prog = true := by kernel_rfl

/-! ### STEP 1: THE WALK: the Go text returns true, AND WRITES NOTHING THAT WAS THERE: 'Below w.heap.size w w'' (Derived/Below.lean: '.refl', '.alloc', '.drew', '.setCell' at a new block, '.trans'). Open each 'IsRow' by 'rcases' AHEAD of 'go_enter'; part every test ahead of the walk. -/
set_option maxRecDepth 20000 in
set_option maxHeartbeats 8000000 in
theorem walk (a0 : Option Addr) (len0 cap0 : Nat) (z0 : List Int) (a1 : Option Addr) (len1 cap1 : Nat) (z1 : List Int) (w : World) (w0 : IsRow .i64 w a0 len0 cap0 z0) (w1 : IsRow .i64 w a1 len1 cap1 z1) :
    Calls Try.prog 4 #[.slice a0 len0 cap0, .slice a1 len1 cap1] w fun e w' => e = .returned (.bool true) ∧ Below w.heap.size w w' := by
  obtain ⟨l, e0, hi0⟩ := ints_of_row w0
  have H0 : Hid (Ints w a0 l) := hi0
  clear w0 hi0
  subst e0
  obtain ⟨m, e1, hi1⟩ := ints_of_row w1
  have H1 : Hid (Ints w a1 m) := hi1
  clear w1 hi1
  subst e1
  by_cases hbigl : (1048576 : Int) < (l.length : Int)
  · go_enter Try.func4, Try.ntmps4
    go_wp2
    go_ret
    exact ⟨rfl, Below.refl _ _⟩
  by_cases hbigm : (1048576 : Int) < (m.length : Int)
  · go_enter Try.func4, Try.ntmps4
    go_wp2
    go_ret
    exact ⟨rfl, Below.refl _ _⟩
  · have hll : l.length ≤ 1048576 := by omega
    have hlm : m.length ≤ 1048576 := by omega
    go_enter Try.func4, Try.ntmps4
    go_wp2_with fail
    refine (to_ints _ hll (H0.out)).mono ?_
    rintro e w1 ⟨rfl, hw⟩
    have HB1 : Hid (Below w.heap.size w w1) := by rw [hw]; exact (Below.refl _ _).alloc (Nat.le_refl _) _
    have HI1 : Hid (Ints w1 (some ⟨w.heap.size, 0, none⟩) l) := by rw [hw]; exact ints_new w l _
    have HO1 : Hid (OwnInts w1 w.heap.size l) := by rw [hw]; exact ownInts_new w l
    clear hw
    have HT1 : Hid (Below w.heap.size w w1) := HB1.out
    go_wp2_with fail
    refine (to_ints _ hlm (H1.out.keep HT1.out)).mono ?_
    rintro e w2 ⟨rfl, hw⟩
    have HB2 : Hid (Below w1.heap.size w1 w2) := by rw [hw]; exact (Below.refl _ _).alloc (Nat.le_refl _) _
    have HI2 : Hid (Ints w2 (some ⟨w1.heap.size, 0, none⟩) m) := by rw [hw]; exact ints_new w1 m _
    have HO2 : Hid (OwnInts w2 w1.heap.size m) := by rw [hw]; exact ownInts_new w1 m
    clear hw
    have HT2 : Hid (Below w.heap.size w w2) := bTrans HT1.out HB2.out
    go_wp2_with fail
    refine (same_spec _ _ (HI1.out.keep HB2.out) HI2.out).mono ?_
    rintro e w3 ⟨rfl, j1, hw⟩
    have HB3 : Hid (Below w2.heap.size w2 w3) := by rw [hw]; exact bDrewN (Below.refl _ _) j1
    have HT3 : Hid (Below w.heap.size w w3) := bTrans HT2.out HB3.out
    clear hw
    go_wp2_with fail
    refine (to_ints _ hll (H0.out.keep HT3.out)).mono ?_
    rintro e w4 ⟨rfl, hw⟩
    have HB4 : Hid (Below w3.heap.size w3 w4) := by rw [hw]; exact (Below.refl _ _).alloc (Nat.le_refl _) _
    have HI4 : Hid (Ints w4 (some ⟨w3.heap.size, 0, none⟩) l) := by rw [hw]; exact ints_new w3 l _
    have HO4 : Hid (OwnInts w4 w3.heap.size l) := by rw [hw]; exact ownInts_new w3 l
    clear hw
    have HT4 : Hid (Below w.heap.size w w4) := bTrans HT3.out HB4.out
    go_wp2_with fail
    refine (to_ints _ hlm (H1.out.keep HT4.out)).mono ?_
    rintro e w5 ⟨rfl, hw⟩
    have HB5 : Hid (Below w4.heap.size w4 w5) := by rw [hw]; exact (Below.refl _ _).alloc (Nat.le_refl _) _
    have HI5 : Hid (Ints w5 (some ⟨w4.heap.size, 0, none⟩) m) := by rw [hw]; exact ints_new w4 m _
    have HO5 : Hid (OwnInts w5 w4.heap.size m) := by rw [hw]; exact ownInts_new w4 m
    clear hw
    have HT5 : Hid (Below w.heap.size w w5) := bTrans HT4.out HB5.out
    go_wp2_with fail
    refine (same_impl _ _ (HI4.out.keep HB5.out) HI5.out).mono ?_
    rintro e w6 ⟨rfl, hb⟩
    have HB6 : Hid (Below w5.heap.size w5 w6) := hb
    have HT6 : Hid (Below w.heap.size w w6) := bTrans HT5.out hb
    clear hb
    go_wp2_with fail
    refine (to_ints _ hll (H0.out.keep HT6.out)).mono ?_
    rintro e w7 ⟨rfl, hw⟩
    have HB7 : Hid (Below w6.heap.size w6 w7) := by rw [hw]; exact (Below.refl _ _).alloc (Nat.le_refl _) _
    have HI7 : Hid (Ints w7 (some ⟨w6.heap.size, 0, none⟩) l) := by rw [hw]; exact ints_new w6 l _
    have HO7 : Hid (OwnInts w7 w6.heap.size l) := by rw [hw]; exact ownInts_new w6 l
    clear hw
    have HT7 : Hid (Below w.heap.size w w7) := bTrans HT6.out HB7.out
    go_wp2_with fail
    refine (eq_ints _ _ (by omega) (((HI4.out.keep HB5.out).keep HB6.out).keep HB7.out) HI7.out).mono ?_
    rintro e w8 ⟨rfl, j, hw⟩
    have HB8 : Hid (Below w7.heap.size w7 w8) := by rw [hw]; exact bDrewN (Below.refl _ _) j
    have HT8 : Hid (Below w.heap.size w w8) := bTrans HT7.out HB8.out
    clear hw
    go_wp2_with fail
    refine (to_ints _ hlm (H1.out.keep HT8.out)).mono ?_
    rintro e w9 ⟨rfl, hw⟩
    have HB9 : Hid (Below w8.heap.size w8 w9) := by rw [hw]; exact (Below.refl _ _).alloc (Nat.le_refl _) _
    have HI9 : Hid (Ints w9 (some ⟨w8.heap.size, 0, none⟩) m) := by rw [hw]; exact ints_new w8 m _
    have HO9 : Hid (OwnInts w9 w8.heap.size m) := by rw [hw]; exact ownInts_new w8 m
    clear hw
    have HT9 : Hid (Below w.heap.size w w9) := bTrans HT8.out HB9.out
    go_wp2_with fail
    refine (eq_ints _ _ (by omega) ((((HI5.out.keep HB6.out).keep HB7.out).keep HB8.out).keep HB9.out) HI9.out).mono ?_
    rintro e w' ⟨rfl, j2, rfl⟩
    go_wp2
    go_ret
    exact ⟨rfl, bDrewN HT9.out j2⟩

/-! ### THE ROW's STEP: WRITTEN OUT: LEAVE IT -/
set_option maxRecDepth 100000 in
theorem lifted (os : Os) (started : os.Started) (H : Type) (enc : TypeId × Value → H) :
    ReturnsInHanded {} Try.checked os 4 .any (Rows.fnExactShapeSameSpec.pre6 enc Try.prog Try.f4 Rows.fnExactShapeSameRow.domain false) (Rows.fnExactShapeSameSpec.post enc Try.prog Try.f4 false true false false) := by
  refine returnsInHanded_of_change (C := Try.checked) own started (by kernel_rfl) Try.func4
    (ChangeSpec.witness6 (enc := enc) (C := Try.checked) false ⟨#[], #[.slice none 0 0, .slice none 0 0], []⟩ 8 (by kernel_rfl) (by kernel_rfl) (by kernel_rfl) (by kernel_rfl)) ?_
  intro W base args ds gs before hval0 hW hcnd _
  have hval : ∀ (j : Nat) t v, Try.f4.params[j]? = some t → args[j]? = some v → Value.okWide Try.prog W .any base t v := hval0
  have hW' := hW
  obtain ⟨p, q, hA0, hV, rfl, hfz, hnd⟩ := hW
  have hA : DataW.TrodAll enc Try.prog W 0 (fun _ => true) true Try.f4.params.toList args.toList ds p := hA0
  rw [Try.params4] at hA hval
  obtain ⟨v0, vs0, d0, ds0, p0, q0, hargs, rfl, rfl, h0, r0⟩ := trodAll_cons hA
  obtain ⟨v1, vs1, d1, ds1, p1, q1, rfl, rfl, rfl, h1, r1⟩ := trodAll_cons r0
  obtain ⟨rfl, rfl, rfl⟩ := trodAll_nil r1
  obtain rfl : args = #[v0, v1] := by cases args; simp_all
  obtain ⟨rfl, rfl⟩ := trodVars_none hV
  obtain ⟨a0, len0, cap0, rfl⟩ := okWide_slice Try.underlying22 (hval 0 22 v0 rfl rfl)
  have k0 := h0
  have lt0 : ∀ x ∈ p0, x.block < W.heap.size := by obtain ⟨m, hm⟩ := k0; exact DataW.trod_lt m _ _ _ hm
  obtain ⟨z0, w0⟩ : ∃ zs, IsRow .i64 W a0 len0 cap0 zs := by
    obtain ⟨fuel, hf⟩ := h0
    rcases open_ints Try.underlying22 Try.underlying3 (by kernel_rfl) hf with ⟨hcs, _⟩ | ⟨x, l, c, zs, hcs, _, hl, hm, hz, _, hcell, hwz⟩
    · simp [Value.cells] at hcs
      obtain ⟨rfl, rfl, rfl⟩ := hcs
      exact ⟨[], .inl ⟨rfl, rfl, rfl, rfl⟩⟩
    · simp [Value.cells] at hcs
      obtain ⟨rfl, rfl, rfl⟩ := hcs
      exact ⟨zs, .inr ⟨_, rfl, hl, hm, by simpa using hz, hcell, hwz⟩⟩
  obtain ⟨a1, len1, cap1, rfl⟩ := okWide_slice Try.underlying22 (hval 1 22 v1 rfl rfl)
  have k1 := h1
  have lt1 : ∀ x ∈ p1, x.block < W.heap.size := by obtain ⟨m, hm⟩ := k1; exact DataW.trod_lt m _ _ _ hm
  obtain ⟨z1, w1⟩ : ∃ zs, IsRow .i64 W a1 len1 cap1 zs := by
    obtain ⟨fuel, hf⟩ := h1
    rcases open_ints Try.underlying22 Try.underlying3 (by kernel_rfl) hf with ⟨hcs, _⟩ | ⟨x, l, c, zs, hcs, _, hl, hm, hz, _, hcell, hwz⟩
    · simp [Value.cells] at hcs
      obtain ⟨rfl, rfl, rfl⟩ := hcs
      exact ⟨[], .inl ⟨rfl, rfl, rfl, rfl⟩⟩
    · simp [Value.cells] at hcs
      obtain ⟨rfl, rfl, rfl⟩ := hcs
      exact ⟨zs, .inr ⟨_, rfl, hl, hm, by simpa using hz, hcell, hwz⟩⟩
  clear hA0 hval0
  refine (walk a0 len0 cap0 z0 a1 len1 cap1 z1 W w0 w1).mono fun e W' ⟨he, bel⟩ => ?_
  subst he
  exact ⟨_, rfl, _, _, _, [], _, [], hW', trodAll_mk1 (shut_bool Try.underlying4 _), (trodAll_cons_mk (Below.trod laidOut (by kernel_rfl) (of_decide_eq_true (by kernel_rfl)) k0 bel lt0) (trodAll_cons_mk (Below.trod laidOut (by kernel_rfl) (of_decide_eq_true (by kernel_rfl)) k1 bel lt1) trodAll_mk0)), rfl, bel.frame _, fun h => by cases h⟩

theorem over : Rows.fnExactShapeSameRow.holds Try.pinned (OpenSpec.ofChange Rows.fnExactShapeSameSpec) :=
  OpenClaim.holds_of_wide 4 Try.f4 rfl rfl rfl rfl rfl rfl rfl ⟨rfl, rfl, rfl, rfl, rfl⟩ rfl rfl rfl rfl rfl (by kernel_rfl) Try.func4 (by kernel_rfl)
    (of_decide_eq_true (by kernel_rfl)) (by unfold Func.isWrapper; first | (rw [if_pos (by decide +kernel)]; kernel_rfl) | (rw [if_neg (by decide +kernel)]; exact ⟨rfl, rfl⟩))
    (fun os started H enc _ => lifted os started H enc)

/-- ████ THE STATEMENT ████ -/
theorem proved : Rows.FnExactShapeSameSaid := over
end Go.Proofs.Ytpjmnblkbejdlam.fnExactShapeSame
namespace Go.Proofs.Ytpjmnblkbejdlam
theorem fnExactShapeSame_holds : Rows.FnExactShapeSameSaid := fnExactShapeSame.proved
#print axioms fnExactShapeSame_holds
end Go.Proofs.Ytpjmnblkbejdlam
