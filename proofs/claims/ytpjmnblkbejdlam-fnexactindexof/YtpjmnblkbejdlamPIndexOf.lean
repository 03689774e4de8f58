/-
  Proved: whatever list and place it is given, the law FnExactIndexOf returns true (the program's IndexOf answers as the specification's, writes into no argument, and its answer owns its memory), and the list reads as before. No condition.
-/
import Derived.Test.YtpjmnblkbejdlamRows
import Derived.WalkKit
import Derived.ProofKit
import Derived.OpenShut
import Derived.ShutString
import Derived.ChangeOld
import Derived.Below
import Derived.Test.YtpjmnblkbejdlamImplShape
import Derived.Test.YtpjmnblkbejdlamMarks
import Derived.Test.YtpjmnblkbejdlamSpecIndex
namespace Go.Proofs.Ytpjmnblkbejdlam.fnExactIndexOf
open Go.ChangeShapes Go.WideShapes Go.ChangeAt Go.RowKit
open Go.ChangeMaps (open_string shut_string)
set_option linter.unusedVariables false

theorem own : ownKnob Try.prog.godebug = none := by kernel_rfl
theorem laidOut : laidOutB Try.prog = true := by kernel_rfl

/-! ### STEP 1: THE WALK: the Go text returns true, AND WRITES NOTHING THAT WAS THERE: 'Below w.heap.size w w'' (Derived/Below.lean: '.refl', '.alloc', '.drew', '.setCell' at a new block, '.trans'). Open each 'IsRow' by 'rcases' AHEAD of 'go_enter'; part every test ahead of the walk. -/
set_option maxRecDepth 20000 in
set_option maxHeartbeats 8000000 in
theorem walk (a0 : Option Addr) (len0 cap0 : Nat) (z0 : List Int) (a1 : Int) (w : World) (w0 : IsRow .i64 w a0 len0 cap0 z0) (w1 : (Lit.int .i64 a1).wf = true) :
    Calls Try.prog 3 #[.slice a0 len0 cap0, .int .i64 a1] w fun e w' => e = .returned (.bool true) ∧ Below w.heap.size w w' := by
  obtain ⟨l, e0, hi0⟩ := ints_of_row w0
  have H0 : Hid (Ints w a0 l) := hi0
  clear w0 hi0
  subst e0
  by_cases hbigl : (1048576 : Int) < (l.length : Int)
  · go_enter Try.func3, Try.ntmps3
    go_wp2
    go_ret
    exact ⟨rfl, Below.refl _ _⟩
  · have hll : l.length ≤ 1048576 := by omega
    go_enter Try.func3, Try.ntmps3
    go_wp2_with fail
    refine (to_ints _ hll (H0.out)).mono ?_
    rintro e w1 ⟨rfl, hw⟩
    have HB1 : Hid (Below w.heap.size w w1) := by rw [hw]; exact (Below.refl _ _).alloc (Nat.le_refl _) _
    have HI1 : Hid (Ints w1 (some ⟨w.heap.size, 0, none⟩) l) := by rw [hw]; exact ints_new w l _
    have HO1 : Hid (OwnInts w1 w.heap.size l) := by rw [hw]; exact ownInts_new w l
    clear hw
    have HT1 : Hid (Below w.heap.size w w1) := HB1.out
    have hlen := indexV_len l a1
    go_wp2_with fail
    refine (index_spec a1 _ HI1.out).mono ?_
    rintro e w2 ⟨rfl, hw⟩
    have HB2 : Hid (Below w1.heap.size w1 w2) := by rw [hw]; exact (Below.refl _ _).alloc (Nat.le_refl _) _
    have HW2 : Hid (OwnInts w2 w1.heap.size (indexV l a1)) := by rw [hw]; exact ownInts_new w1 _
    have HT2 : Hid (Below w.heap.size w w2) := bTrans HT1.out HB2.out
    have s2 : w1.heap.size < w2.heap.size := HW2.out.lt
    clear hw
    go_wp2_with fail
    refine (to_ints _ hll (H0.out.keep HT2.out)).mono ?_
    rintro e w3 ⟨rfl, hw⟩
    have HB3 : Hid (Below w2.heap.size w2 w3) := by rw [hw]; exact (Below.refl _ _).alloc (Nat.le_refl _) _
    have HI3 : Hid (Ints w3 (some ⟨w2.heap.size, 0, none⟩) l) := by rw [hw]; exact ints_new w2 l _
    have HO3 : Hid (OwnInts w3 w2.heap.size l) := by rw [hw]; exact ownInts_new w2 l
    clear hw
    have HT3 : Hid (Below w.heap.size w w3) := bTrans HT2.out HB3.out
    have s3 : w2.heap.size < w3.heap.size := HO3.out.lt
    go_wp2_with fail
    refine (index_impl a1 _ HI3.out).mono ?_
    rintro e w4 ⟨v, rfl, hv, hb⟩
    have HB4 : Hid (Below w3.heap.size w3 w4) := hb
    have HT4 : Hid (Below w.heap.size w w4) := bTrans HT3.out hb
    have HN4 : Hid (NewInts w3.heap.size w4 v (indexV l a1)) := hv
    have HW4 : Hid (OwnInts w4 w1.heap.size (indexV l a1)) := (HW2.out.keep HB3.out).keep hb
    have HX4 : Hid (OwnInts w4 w2.heap.size l) := HO3.out.keep hb
    obtain ⟨av, cv, rfl, hi⟩ := hv.ints
    have HV4 : Hid (Ints w4 av (indexV l a1)) := hi
    have s4 := hb.size
    clear hv hb hi
    generalize hD : indexV l a1 = D at *
    have HDE : Hid (indexV l a1 = D) := hD
    clear hD
    go_wp2_with fail
    refine (eq_ints _ _ (by omega) HV4.out HW4.out.ints).mono ?_
    rintro e w5 ⟨rfl, j5, hw⟩
    have HB5 : Hid (Below w4.heap.size w4 w5) := by rw [hw]; exact bDrewN (Below.refl _ _) j5
    have HT5 : Hid (Below w.heap.size w w5) := bTrans HT4.out HB5.out
    clear hw
    go_wp2_with fail
    refine (to_ints _ hll (H0.out.keep HT5.out)).mono ?_
    rintro e w6 ⟨rfl, hw⟩
    have HB6 : Hid (Below w5.heap.size w5 w6) := by rw [hw]; exact (Below.refl _ _).alloc (Nat.le_refl _) _
    have HI6 : Hid (Ints w6 (some ⟨w5.heap.size, 0, none⟩) l) := by rw [hw]; exact ints_new w5 l _
    have HO6 : Hid (OwnInts w6 w5.heap.size l) := by rw [hw]; exact ownInts_new w5 l
    clear hw
    have HT6 : Hid (Below w.heap.size w w6) := bTrans HT5.out HB6.out
    have HX6 : Hid (OwnInts w6 w2.heap.size l) := (HX4.out.keep HB5.out).keep HB6.out
    go_wp2_with fail
    refine (eq_ints _ _ (by omega) HX6.out.ints HI6.out).mono ?_
    rintro e w7 ⟨rfl, j7, hw⟩
    have HB7 : Hid (Below w6.heap.size w6 w7) := by rw [hw]; exact bDrewN (Below.refl _ _) j7
    have HT7 : Hid (Below w.heap.size w w7) := bTrans HT6.out HB7.out
    clear hw
    have HX7 : Hid (OwnInts w7 w2.heap.size l) := HX6.out.keep HB7.out
    have HN7 : Hid (NewInts w3.heap.size w7 (.slice av D.length cv) D) := ((HN4.out.keep HB5.out).keep HB6.out).keep HB7.out
    have HW7 : Hid (OwnInts w7 w1.heap.size D) := ((HW4.out.keep HB5.out).keep HB6.out).keep HB7.out
    have s7 : w3.heap.size ≤ w7.heap.size := by have := HB5.out.size; have := HB6.out.size; have := HB7.out.size; omega
    go_wp2_with fail
    refine (mark_walk l w2.heap.size l.length l.length 1 w7 hll (by decide) (by decide) HX7.out rfl).mono ?_
    rintro e w8 ⟨rfl, hx, hb⟩
    have HU8 : Hid (But w2.heap.size w7 w8) := hb
    have HT8 : Hid (Below w.heap.size w w8) := HT7.out.trans (hb.below (by have := HT2.out.size; omega) HT7.out.size)
    have HN8 : Hid (NewInts w3.heap.size w8 (.slice av D.length cv) D) := HN7.out.but hb s3
    have HW8 : Hid (OwnInts w8 w1.heap.size D) := HW7.out.but hb (by omega)
    obtain ⟨ax, cx, ex, hi⟩ := HN8.out.ints
    cases ex
    have HV8 : Hid (Ints w8 av D) := hi
    have s8 := hb.size
    clear hx hb hi
    go_wp2_with fail
    refine (eq_ints _ _ (by omega) HV8.out HW8.out.ints).mono ?_
    rintro e w9 ⟨rfl, j9, hw⟩
    have HB9 : Hid (Below w8.heap.size w8 w9) := by rw [hw]; exact bDrewN (Below.refl _ _) j9
    have HT9 : Hid (Below w.heap.size w w9) := bTrans HT8.out HB9.out
    clear hw
    have s9 := HB9.out.size
    go_wp2_with fail
    refine (mark_new (HN8.out.keep HB9.out) (by omega) 1 (by decide) (by decide) (by omega)).mono ?_
    rintro e w10 ⟨rfl, hx, hb⟩
    have HN10 : Hid (NewInts w3.heap.size w10 (.slice av D.length cv) (upFrom 1 D.length)) := hx
    have HT10 : Hid (Below w.heap.size w w10) := HT9.out.trans (hb.mono (by have := HT3.out.size; omega))
    have HW10 : Hid (OwnInts w10 w1.heap.size D) := (HW8.out.keep HB9.out).keepB hb (by omega)
    clear hx hb
    go_wp2_with fail
    refine (held_new 1 HN10.out (by omega) (by decide) (by decide)).mono ?_
    rintro e w' ⟨rfl, hw⟩
    subst w'
    go_wp2_with fail
    refine (to_ints _ hll (H0.out.keep HT10.out)).mono ?_
    rintro e w11 ⟨rfl, hw⟩
    have HB11 : Hid (Below w10.heap.size w10 w11) := by rw [hw]; exact (Below.refl _ _).alloc (Nat.le_refl _) _
    have HI11 : Hid (Ints w11 (some ⟨w10.heap.size, 0, none⟩) l) := by rw [hw]; exact ints_new w10 l _
    have HO11 : Hid (OwnInts w11 w10.heap.size l) := by rw [hw]; exact ownInts_new w10 l
    clear hw
    have HT11 : Hid (Below w.heap.size w w11) := bTrans HT10.out HB11.out
    go_wp2_with fail
    refine (index_impl a1 _ HI11.out).mono ?_
    rintro e w12 ⟨v2, rfl, hv, hb⟩
    rw [HDE.out] at hv
    have HB12 : Hid (Below w11.heap.size w11 w12) := hb
    have HT12 : Hid (Below w.heap.size w w12) := bTrans HT11.out hb
    obtain ⟨av2, cv2, rfl, hi⟩ := hv.ints
    have HV12 : Hid (Ints w12 av2 D) := hi
    have HW12 : Hid (OwnInts w12 w1.heap.size D) := (HW10.out.keep HB11.out).keep hb
    have HN12 : Hid (NewInts w3.heap.size w12 (.slice av D.length cv) (upFrom 1 D.length)) := (HN10.out.keep HB11.out).keep hb
    clear hv hb hi
    go_wp2_with fail
    refine (eq_ints _ _ (by omega) HV12.out HW12.out.ints).mono ?_
    rintro e w13 ⟨rfl, j13, hw⟩
    have HB13 : Hid (Below w12.heap.size w12 w13) := by rw [hw]; exact bDrewN (Below.refl _ _) j13
    have HT13 : Hid (Below w.heap.size w w13) := bTrans HT12.out HB13.out
    clear hw
    go_wp2_with fail
    refine (held_new 1 (HN12.out.keep HB13.out) (by omega) (by decide) (by decide)).mono ?_
    rintro e w' ⟨rfl, hw⟩
    subst w'
    go_wp2
    go_ret
    exact ⟨rfl, HT13.out⟩

/-! ### THE ROW's STEP: WRITTEN OUT: LEAVE IT -/
set_option maxRecDepth 100000 in
theorem lifted (os : Os) (started : os.Started) (H : Type) (enc : TypeId × Value → H) :
    ReturnsInHanded {} Try.checked os 3 .any (Rows.fnExactIndexOfSpec.pre6 enc Try.prog Try.f3 Rows.fnExactIndexOfRow.domain false) (Rows.fnExactIndexOfSpec.post enc Try.prog Try.f3 false true false false) := by
  refine returnsInHanded_of_change (C := Try.checked) own started (by kernel_rfl) Try.func3
    (ChangeSpec.witness6 (enc := enc) (C := Try.checked) false ⟨#[], #[.slice none 0 0, .int .i64 0], []⟩ 8 (by kernel_rfl) (by kernel_rfl) (by kernel_rfl) (by kernel_rfl)) ?_
  intro W base args ds gs before hval0 hW hcnd _
  have hval : ∀ (j : Nat) t v, Try.f3.params[j]? = some t → args[j]? = some v → Value.okWide Try.prog W .any base t v := hval0
  have hW' := hW
  obtain ⟨p, q, hA0, hV, rfl, hfz, hnd⟩ := hW
  have hA : DataW.TrodAll enc Try.prog W 0 (fun _ => true) true Try.f3.params.toList args.toList ds p := hA0
  rw [Try.params3] at hA hval
  obtain ⟨v0, vs0, d0, ds0, p0, q0, hargs, rfl, rfl, h0, r0⟩ := trodAll_cons hA
  obtain ⟨v1, vs1, d1, ds1, p1, q1, rfl, rfl, rfl, h1, r1⟩ := trodAll_cons r0
  obtain ⟨rfl, rfl, rfl⟩ := trodAll_nil r1
  obtain rfl : args = #[v0, v1] := by cases args; simp_all
  obtain ⟨rfl, rfl⟩ := trodVars_none hV
  obtain ⟨a0, len0, cap0, rfl⟩ := okWide_slice Try.underlying22 (hval 0 22 v0 rfl rfl)
  have k0 := h0
  have lt0 : ∀ x ∈ p0, x.block < W.heap.size := by obtain ⟨m, hm⟩ := k0; exact DataW.trod_lt m _ _ _ hm
  obtain ⟨z0, w0⟩ : ∃ zs, IsRow .i64 W a0 len0 cap0 zs := by
    obtain ⟨fuel, hf⟩ := h0
    rcases open_ints Try.underlying22 Try.underlying3 (by kernel_rfl) hf with ⟨hcs, _⟩ | ⟨x, l, c, zs, hcs, _, hl, hm, hz, _, hcell, hwz⟩
    · simp [Value.cells] at hcs
      obtain ⟨rfl, rfl, rfl⟩ := hcs
      exact ⟨[], .inl ⟨rfl, rfl, rfl, rfl⟩⟩
    · simp [Value.cells] at hcs
      obtain ⟨rfl, rfl, rfl⟩ := hcs
      exact ⟨zs, .inr ⟨_, rfl, hl, hm, by simpa using hz, hcell, hwz⟩⟩
  obtain ⟨a1, rfl, rfl, rfl, w1⟩ := open_int Try.underlying3 (hval 1 3 v1 rfl rfl) h1
  clear hA0 hval0
  refine (walk a0 len0 cap0 z0 a1 W w0 w1).mono fun e W' ⟨he, bel⟩ => ?_
  subst he
  exact ⟨_, rfl, _, _, _, [], _, [], hW', trodAll_mk1 (shut_bool Try.underlying4 _), (trodAll_cons_mk (Below.trod laidOut (by kernel_rfl) (of_decide_eq_true (by kernel_rfl)) k0 bel lt0) (trodAll_cons_mk (shut_int Try.underlying3 w1) trodAll_mk0)), rfl, bel.frame _, fun h => by cases h⟩

theorem over : Rows.fnExactIndexOfRow.holds Try.pinned (OpenSpec.ofChange Rows.fnExactIndexOfSpec) :=
  OpenClaim.holds_of_wide 3 Try.f3 rfl rfl rfl rfl rfl rfl rfl ⟨rfl, rfl, rfl, rfl, rfl⟩ rfl rfl rfl rfl rfl (by kernel_rfl) Try.func3 (by kernel_rfl)
    (of_decide_eq_true (by kernel_rfl)) (by unfold Func.isWrapper; first | (rw [if_pos (by decide +kernel)]; kernel_rfl) | (rw [if_neg (by decide +kernel)]; exact ⟨rfl, rfl⟩))
    (fun os started H enc _ => lifted os started H enc)

/-- ████ THE STATEMENT ████ -/
theorem proved : Rows.FnExactIndexOfSaid := over
end Go.Proofs.Ytpjmnblkbejdlam.fnExactIndexOf
namespace Go.Proofs.Ytpjmnblkbejdlam
theorem fnExactIndexOf_holds : Rows.FnExactIndexOfSaid := fnExactIndexOf.proved
#print axioms fnExactIndexOf_holds
end Go.Proofs.Ytpjmnblkbejdlam
