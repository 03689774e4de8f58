/-
  Proved: whatever bytes it is drawn from, the law FnPlaces returns true (an index of a drawn shape has the place whose index it is), and the bytes read as before. No condition.
-/
import Derived.Test.YtpjmnblkbejdlabRows
import Derived.WalkKit
import Derived.ProofKit
import Derived.OpenShut
import Derived.ShutString
import Derived.ChangeOld
import Derived.Below
import Derived.Test.YtpjmnblkbejdlabImplPlaceOf
import Derived.Test.YtpjmnblkbejdlabImplSame
import Derived.Test.YtpjmnblkbejdlabDrawPlace
import Derived.Test.YtpjmnblkbejdlabShapeP
namespace Go.Proofs.Ytpjmnblkbejdlab.fnPlaces
open Go.ChangeShapes Go.WideShapes Go.ChangeAt Go.RowKit
open Go.ChangeMaps (open_string shut_string)
set_option linter.unusedVariables false

theorem own : ownKnob Try.prog.godebug = none := by kernel_rfl
theorem laidOut : laidOutB Try.prog = true := by kernel_rfl

/-! ### STEP 1: THE WALK: the Go text returns true, AND WRITES NOTHING THAT WAS THERE: 'Below w.heap.size w w'' (Derived/Below.lean: '.refl', '.alloc', '.drew', '.setCell' at a new block, '.trans'). Open each 'IsRow' by 'rcases' AHEAD of 'go_enter'; part every test ahead of the walk. -/
set_option maxRecDepth 20000 in
set_option maxHeartbeats 8000000 in
theorem walk (a0 : Option Addr) (len0 cap0 : Nat) (z0 : List Int) (w : World) (w0 : IsRow .u8 w a0 len0 cap0 z0) :
    Calls Try.prog 5 #[.slice a0 len0 cap0] w fun e w' => e = .returned (.bool true) ∧ Below w.heap.size w w' := by
  have HS : Hid (Src w.heap.size w a0 len0) := src_of_row w0
  clear w0
  by_cases hbig : (1048576 : Int) < (len0 : Int)
  · go_enter Try.func5, Try.ntmps5
    go_wp2_with (go_at_call 6; refine (big_laws _ _ _ _).mono ?_; rintro e w' ⟨rfl, hw⟩; subst w')
    go_ret
    exact ⟨rfl, Below.refl _ _⟩
  · have hl : len0 ≤ 1048576 := by omega
    have hd : decide ((1048576 : Int) < (len0 : Int)) = false := by simpa using hbig
    clear hbig
    go_enter Try.func5, Try.ntmps5
    go_wp2_with (go_at_call 6; refine (big_laws _ _ _ _).mono ?_; rintro e w' ⟨rfl, hw⟩; subst w')
    refine (drawIndexOf_spec HS.out hl).mono ?_
    rintro e w1 ⟨v, l, p, rfl, ⟨hl4, hnr⟩, p1, p2, hn, hb⟩
    obtain ⟨ad, c, rfl, hi⟩ := hn.ints
    have A1 : Hid (Ints w1 ad l) := hi
    have HB1 : Hid (Below w.heap.size w w1) := hb
    have HT1 : Hid (Below w.heap.size w w1) := hb
    clear hn hb hi hnr
    have hlen := indexV_len l p
    have HIO : Hid (sizeV l < 0 ∨ p < 0 ∨ sizeV l ≤ p → indexV l p = []) := indexV_out
    have HPI : Hid (0 ≤ sizeV l → 0 ≤ p → p ≤ sizeV l - 1 → (indexV l p).length = l.length ∧ placeV l (indexV l p) = p) := place_of_index
    go_wp2_with fail
    refine (index_impl p _ A1.out).mono ?_
    rintro e w2 ⟨v2, rfl, hv, hb⟩
    have HB2 : Hid (Below w1.heap.size w1 w2) := hb
    obtain ⟨av, cv, rfl, hi⟩ := hv.ints
    have V2 : Hid (Ints w2 av (indexV l p)) := hi
    clear hv hb hi
    have HT2 : Hid (Below w.heap.size w w2) := bTrans HT1.out HB2.out
    have A2 : Hid (Ints w2 ad l) := A1.out.keep HB2.out
    clear A1
    go_wp2_with fail
    refine (index_spec p _ A2.out).mono ?_
    rintro e w3 ⟨rfl, hw⟩
    have HB3 : Hid (Below w2.heap.size w2 w3) := by rw [hw]; exact (Below.refl _ _).alloc (Nat.le_refl _) _
    have U3 : Hid (Ints w3 (some ⟨w2.heap.size, 0, none⟩) (indexV l p)) := by rw [hw]; exact ints_new w2 _ _
    clear hw
    have HT3 : Hid (Below w.heap.size w w3) := bTrans HT2.out HB3.out
    have A3 : Hid (Ints w3 ad l) := A2.out.keep HB3.out
    have V3 : Hid (Ints w3 av (indexV l p)) := V2.out.keep HB3.out
    clear A2 V2
    go_wp2_with fail
    refine (same_ints _ _ (by omega) V3.out U3.out).mono ?_
    rintro e w4 ⟨rfl, j, hw⟩
    have HB4 : Hid (Below w3.heap.size w3 w4) := by rw [hw]; exact bDrewN (Below.refl _ _) j
    clear hw j
    have HT4 : Hid (Below w.heap.size w w4) := bTrans HT3.out HB4.out
    have A4 : Hid (Ints w4 ad l) := A3.out.keep HB4.out
    have V4 : Hid (Ints w4 av (indexV l p)) := V3.out.keep HB4.out
    clear A3 V3
    go_wp2_with fail
    refine (size_impl _ A4.out).mono ?_
    rintro e w5 ⟨rfl, hb⟩
    have HB5 : Hid (Below w4.heap.size w4 w5) := hb
    clear hb
    have HT5 : Hid (Below w.heap.size w w5) := bTrans HT4.out HB5.out
    have A5 : Hid (Ints w5 ad l) := A4.out.keep HB5.out
    have V5 : Hid (Ints w5 av (indexV l p)) := V4.out.keep HB5.out
    clear A4 V4
    go_wp2_with fail
    refine (size_spec _ A5.out).mono ?_
    rintro e w' ⟨rfl, hw⟩
    subst w'
    go_wp2_with fail
    refine (size_impl _ A5.out).mono ?_
    rintro e w6 ⟨rfl, hb⟩
    have HB6 : Hid (Below w5.heap.size w5 w6) := hb
    clear hb
    have HT6 : Hid (Below w.heap.size w w6) := bTrans HT5.out HB6.out
    have A6 : Hid (Ints w6 ad l) := A5.out.keep HB6.out
    have V6 : Hid (Ints w6 av (indexV l p)) := V5.out.keep HB6.out
    clear A5 V5
    obtain ⟨z1, z2⟩ := sizeV_bd l
    have HT6' := HT6.out
    by_cases hout : sizeV l < 0 ∨ p < 0 ∨ sizeV l ≤ p
    · have e0 : (indexV l p).length = 0 := by rw [HIO.out hout]; rfl
      have E0 : Hid ((indexV l p).length = 0) := e0
      have e1 : (((indexV l p).length : Int) == 0) = true := by rw [e0]; rfl
      clear e0
      by_cases o1 : sizeV l < 0
      · go_wp2
        go_ret
        exact ⟨by simp [E0.out], HT6'⟩
      · by_cases o2 : p < 0
        · go_wp2
          go_ret
          exact ⟨by simp [E0.out], HT6'⟩
        · have o3 : sizeV l ≤ p := by omega
          go_wp2
          go_ret
          exact ⟨by simp [E0.out], HT6'⟩
    · obtain ⟨i1, i2⟩ := HPI.out (by omega) (by omega) (by omega)
      have I1 : Hid ((indexV l p).length = l.length) := i1
      have I2 : Hid (placeV l (indexV l p) = p) := i2
      have n1 : ¬ sizeV l < 0 := by omega
      have n2 : ¬ p < 0 := by omega
      have n3 : ¬ sizeV l ≤ p := by omega
      have S6 : Hid (Src w6.heap.size w6 a0 len0) := (HS.out.keep HT6').mono HT6'.size
      clear hout i1 i2 HPI HIO
      go_wp2_with fail
      refine (drawPlaceOf_spec S6.out hl).mono ?_
      rintro e w7 ⟨s2, o2, l3, m3, rfl, h3, h4, hn3, hn4, hb⟩
      have HB7 : Hid (Below w6.heap.size w6 w7) := hb
      obtain ⟨ash, cs, rfl, hi⟩ := hn3.ints
      obtain ⟨ao, co, rfl, hi'⟩ := hn4.ints
      have B7 : Hid (Ints w7 ash l3) := hi
      have C7 : Hid (Ints w7 ao m3) := hi'
      clear hn3 hn4 hb hi hi' S6
      have HT7 : Hid (Below w.heap.size w w7) := bTrans HT6.out HB7.out
      have A7 : Hid (Ints w7 ad l) := A6.out.keep HB7.out
      have V7 : Hid (Ints w7 av (indexV l p)) := V6.out.keep HB7.out
      clear A6 V6
      go_wp2_with fail
      refine (place_impl _ _ B7.out C7.out).mono ?_
      rintro e w8 ⟨rfl, hb⟩
      have HB8 : Hid (Below w7.heap.size w7 w8) := hb
      clear hb
      have HT8 : Hid (Below w.heap.size w w8) := bTrans HT7.out HB8.out
      have A8 : Hid (Ints w8 ad l) := A7.out.keep HB8.out
      have V8 : Hid (Ints w8 av (indexV l p)) := V7.out.keep HB8.out
      have B8 : Hid (Ints w8 ash l3) := B7.out.keep HB8.out
      have C8 : Hid (Ints w8 ao m3) := C7.out.keep HB8.out
      clear A7 V7 B7 C7
      go_wp2_with fail
      refine (place_spec _ _ B8.out C8.out).mono ?_
      rintro e w9 ⟨rfl, j, hw⟩
      have HB9 : Hid (Below w8.heap.size w8 w9) := by rw [hw]; exact bDrewN (Below.refl _ _) j
      clear hw j
      have HT9 : Hid (Below w.heap.size w w9) := bTrans HT8.out HB9.out
      have A9 : Hid (Ints w9 ad l) := A8.out.keep HB9.out
      have V9 : Hid (Ints w9 av (indexV l p)) := V8.out.keep HB9.out
      have B9 : Hid (Ints w9 ash l3) := B8.out.keep HB9.out
      have C9 : Hid (Ints w9 ao m3) := C8.out.keep HB9.out
      clear A8 V8 B8 C8
      have q9 := placeV_bd l3 m3
      have HIP : Hid (0 ≤ placeV l3 m3 → indexV l3 (placeV l3 m3) = m3) := index_of_place
      generalize hq : placeV l3 m3 = q at *
      have HQ : Hid (placeV l3 m3 = q) := hq
      clear hq
      by_cases hq0 : 0 ≤ q
      · go_wp2_with fail
        refine (index_impl q _ B9.out).mono ?_
        rintro e w10 ⟨v5, rfl, hv, hb⟩
        have HB10 : Hid (Below w9.heap.size w9 w10) := hb
        rw [HIP.out hq0] at hv
        obtain ⟨a5, c5, rfl, hi⟩ := hv.ints
        have F10 : Hid (Ints w10 a5 m3) := hi
        clear hv hb hi
        have HT10 : Hid (Below w.heap.size w w10) := bTrans HT9.out HB10.out
        have A10 : Hid (Ints w10 ad l) := A9.out.keep HB10.out
        have V10 : Hid (Ints w10 av (indexV l p)) := V9.out.keep HB10.out
        have B10 : Hid (Ints w10 ash l3) := B9.out.keep HB10.out
        have C10 : Hid (Ints w10 ao m3) := C9.out.keep HB10.out
        clear A9 V9 B9 C9
        go_wp2_with fail
        refine (same_ints _ _ (by omega) F10.out C10.out).mono ?_
        rintro e w11 ⟨rfl, j, hw⟩
        have HB11 : Hid (Below w10.heap.size w10 w11) := by rw [hw]; exact bDrewN (Below.refl _ _) j
        clear hw j
        have HT11 : Hid (Below w.heap.size w w11) := bTrans HT10.out HB11.out
        have A11 : Hid (Ints w11 ad l) := A10.out.keep HB11.out
        have V11 : Hid (Ints w11 av (indexV l p)) := V10.out.keep HB11.out
        have B11 : Hid (Ints w11 ash l3) := B10.out.keep HB11.out
        have C11 : Hid (Ints w11 ao m3) := C10.out.keep HB11.out
        clear A10 V10 B10 C10
        go_wp2_with fail
        refine (place_impl _ _ A11.out V11.out).mono ?_
        rintro e w12 ⟨rfl, hb⟩
        have HB12 : Hid (Below w11.heap.size w11 w12) := hb
        clear hb
        rw [I2.out]
        have HT12 : Hid (Below w.heap.size w w12) := bTrans HT11.out HB12.out
        have A12 : Hid (Ints w12 ad l) := A11.out.keep HB12.out
        have V12 : Hid (Ints w12 av (indexV l p)) := V11.out.keep HB12.out
        have B12 : Hid (Ints w12 ash l3) := B11.out.keep HB12.out
        have C12 : Hid (Ints w12 ao m3) := C11.out.keep HB12.out
        clear A11 V11 B11 C11
        have el : (((indexV l p).length : Int) == (l.length : Int)) = true := by rw [I1.out]; simp
        have ok1 : decide (0 ≤ sizeV l) = true := by simp; omega
        go_wp2_with fail
        refine (ok_impl _ A12.out).mono ?_
        rintro e w13 ⟨rfl, hb⟩
        have HB13 : Hid (Below w12.heap.size w12 w13) := hb
        clear hb
        have HT13 : Hid (Below w.heap.size w w13) := bTrans HT12.out HB13.out
        have A13 : Hid (Ints w13 ad l) := A12.out.keep HB13.out
        have V13 : Hid (Ints w13 av (indexV l p)) := V12.out.keep HB13.out
        have B13 : Hid (Ints w13 ash l3) := B12.out.keep HB13.out
        have C13 : Hid (Ints w13 ao m3) := C12.out.keep HB13.out
        clear A12 V12 B12 C12
        go_wp2_with fail
        refine (same_impl _ _ A13.out A13.out).mono ?_
        rintro e w14 ⟨rfl, hb⟩
        have HB14 : Hid (Below w13.heap.size w13 w14) := hb
        clear hb
        have HT14 : Hid (Below w.heap.size w w14) := bTrans HT13.out HB14.out
        have A14 : Hid (Ints w14 ad l) := A13.out.keep HB14.out
        have V14 : Hid (Ints w14 av (indexV l p)) := V13.out.keep HB14.out
        have B14 : Hid (Ints w14 ash l3) := B13.out.keep HB14.out
        have C14 : Hid (Ints w14 ao m3) := C13.out.keep HB14.out
        clear A13 V13 B13 C13
        go_wp2
        go_ret
        exact ⟨by simp, HT14.out⟩
      · have hq1 : q < 0 := by omega
        go_wp2_with fail
        refine (place_impl _ _ A9.out V9.out).mono ?_
        rintro e w10 ⟨rfl, hb⟩
        have HB10 : Hid (Below w9.heap.size w9 w10) := hb
        clear hb
        rw [I2.out]
        have HT10 : Hid (Below w.heap.size w w10) := bTrans HT9.out HB10.out
        have A10 : Hid (Ints w10 ad l) := A9.out.keep HB10.out
        have V10 : Hid (Ints w10 av (indexV l p)) := V9.out.keep HB10.out
        have B10 : Hid (Ints w10 ash l3) := B9.out.keep HB10.out
        have C10 : Hid (Ints w10 ao m3) := C9.out.keep HB10.out
        clear A9 V9 B9 C9
        have el : (((indexV l p).length : Int) == (l.length : Int)) = true := by rw [I1.out]; simp
        have ok1 : decide (0 ≤ sizeV l) = true := by simp; omega
        go_wp2_with fail
        refine (ok_impl _ A10.out).mono ?_
        rintro e w11 ⟨rfl, hb⟩
        have HB11 : Hid (Below w10.heap.size w10 w11) := hb
        clear hb
        have HT11 : Hid (Below w.heap.size w w11) := bTrans HT10.out HB11.out
        have A11 : Hid (Ints w11 ad l) := A10.out.keep HB11.out
        have V11 : Hid (Ints w11 av (indexV l p)) := V10.out.keep HB11.out
        have B11 : Hid (Ints w11 ash l3) := B10.out.keep HB11.out
        have C11 : Hid (Ints w11 ao m3) := C10.out.keep HB11.out
        clear A10 V10 B10 C10
        go_wp2_with fail
        refine (same_impl _ _ A11.out A11.out).mono ?_
        rintro e w12 ⟨rfl, hb⟩
        have HB12 : Hid (Below w11.heap.size w11 w12) := hb
        clear hb
        have HT12 : Hid (Below w.heap.size w w12) := bTrans HT11.out HB12.out
        have A12 : Hid (Ints w12 ad l) := A11.out.keep HB12.out
        have V12 : Hid (Ints w12 av (indexV l p)) := V11.out.keep HB12.out
        have B12 : Hid (Ints w12 ash l3) := B11.out.keep HB12.out
        have C12 : Hid (Ints w12 ao m3) := C11.out.keep HB12.out
        clear A11 V11 B11 C11
        go_wp2
        go_ret
        exact ⟨by simp, HT12.out⟩

/-! ### THE ROW's STEP: WRITTEN OUT: LEAVE IT -/
set_option maxRecDepth 100000 in
theorem lifted (os : Os) (started : os.Started) (H : Type) (enc : TypeId × Value → H) :
    ReturnsInHanded {} Try.checked os 5 .any (Rows.fnPlacesSpec.pre6 enc Try.prog Try.f5 Rows.fnPlacesRow.domain false) (Rows.fnPlacesSpec.post enc Try.prog Try.f5 false true false false) := by
  refine returnsInHanded_of_change (C := Try.checked) own started (by kernel_rfl) Try.func5
    (ChangeSpec.witness6 (enc := enc) (C := Try.checked) false ⟨#[], #[.slice none 0 0], []⟩ 8 (by kernel_rfl) (by kernel_rfl) (by kernel_rfl) (by kernel_rfl)) ?_
  intro W base args ds gs before hval0 hW hcnd _
  have hval : ∀ (j : Nat) t v, Try.f5.params[j]? = some t → args[j]? = some v → Value.okWide Try.prog W .any base t v := hval0
  have hW' := hW
  obtain ⟨p, q, hA0, hV, rfl, hfz, hnd⟩ := hW
  have hA : DataW.TrodAll enc Try.prog W 0 (fun _ => true) true Try.f5.params.toList args.toList ds p := hA0
  rw [Try.params5] at hA hval
  obtain ⟨v0, vs0, d0, ds0, p0, q0, hargs, rfl, rfl, h0, r0⟩ := trodAll_cons hA
  obtain ⟨rfl, rfl, rfl⟩ := trodAll_nil r0
  obtain rfl : args = #[v0] := by cases args; simp_all
  obtain ⟨rfl, rfl⟩ := trodVars_none hV
  obtain ⟨a0, len0, cap0, rfl⟩ := okWide_slice Try.underlying22 (hval 0 22 v0 rfl rfl)
  have k0 := h0
  have lt0 : ∀ x ∈ p0, x.block < W.heap.size := by obtain ⟨m, hm⟩ := k0; exact DataW.trod_lt m _ _ _ hm
  obtain ⟨z0, w0⟩ : ∃ zs, IsRow .u8 W a0 len0 cap0 zs := by
    obtain ⟨fuel, hf⟩ := h0
    rcases open_ints Try.underlying22 Try.underlying5 (by kernel_rfl) hf with ⟨hcs, _⟩ | ⟨x, l, c, zs, hcs, _, hl, hm, hz, _, hcell, hwz⟩
    · simp [Value.cells] at hcs
      obtain ⟨rfl, rfl, rfl⟩ := hcs
      exact ⟨[], .inl ⟨rfl, rfl, rfl, rfl⟩⟩
    · simp [Value.cells] at hcs
      obtain ⟨rfl, rfl, rfl⟩ := hcs
      exact ⟨zs, .inr ⟨_, rfl, hl, hm, by simpa using hz, hcell, hwz⟩⟩
  clear hA0 hval0
  refine (walk a0 len0 cap0 z0 W w0).mono fun e W' ⟨he, bel⟩ => ?_
  subst he
  exact ⟨_, rfl, _, _, _, [], _, [], hW', trodAll_mk1 (shut_bool Try.underlying4 _), (trodAll_cons_mk (Below.trod laidOut (by kernel_rfl) (of_decide_eq_true (by kernel_rfl)) k0 bel lt0) trodAll_mk0), rfl, bel.frame _, fun h => by cases h⟩

theorem over : Rows.fnPlacesRow.holds Try.pinned (OpenSpec.ofChange Rows.fnPlacesSpec) :=
  OpenClaim.holds_of_wide 5 Try.f5 rfl rfl rfl rfl rfl rfl rfl ⟨rfl, rfl, rfl, rfl, rfl⟩ rfl rfl rfl rfl rfl (by kernel_rfl) Try.func5 (by kernel_rfl)
    (of_decide_eq_true (by kernel_rfl)) (by unfold Func.isWrapper; first | (rw [if_pos (by decide +kernel)]; kernel_rfl) | (rw [if_neg (by decide +kernel)]; exact ⟨rfl, rfl⟩))
    (fun os started H enc _ => lifted os started H enc)

/-- ████ THE STATEMENT ████ -/
theorem proved : Rows.FnPlacesSaid := over
end Go.Proofs.Ytpjmnblkbejdlab.fnPlaces
namespace Go.Proofs.Ytpjmnblkbejdlab
theorem fnPlaces_holds : Rows.FnPlacesSaid := fnPlaces.proved
#print axioms fnPlaces_holds
end Go.Proofs.Ytpjmnblkbejdlab
