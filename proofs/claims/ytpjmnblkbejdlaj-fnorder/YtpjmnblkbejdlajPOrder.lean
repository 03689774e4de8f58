/-
  Proved: whatever bytes they are drawn from, the law FnOrder returns true (places one behind the other have indexes one behind the other), and the bytes read as before. No condition.
-/
import Derived.Test.YtpjmnblkbejdlajRows
import Derived.WalkKit
import Derived.ProofKit
import Derived.OpenShut
import Derived.ShutString
import Derived.ChangeOld
import Derived.Below
import Derived.Test.YtpjmnblkbejdlajImplShape
import Derived.Test.YtpjmnblkbejdlajDrawPlace
import Derived.Test.YtpjmnblkbejdlajShapeO
namespace Go.Proofs.Ytpjmnblkbejdlaj.fnOrder
open Go.ChangeShapes Go.WideShapes Go.ChangeAt Go.RowKit
open Go.ChangeMaps (open_string shut_string)
set_option linter.unusedVariables false

theorem own : ownKnob Try.prog.godebug = none := by kernel_rfl
theorem laidOut : laidOutB Try.prog = true := by kernel_rfl

/-! ### STEP 1: THE WALK: the Go text returns true, AND WRITES NOTHING THAT WAS THERE: 'Below w.heap.size w w'' (Derived/Below.lean: '.refl', '.alloc', '.drew', '.setCell' at a new block, '.trans'). Open each 'IsRow' by 'rcases' AHEAD of 'go_enter'; part every test ahead of the walk. -/
set_option maxRecDepth 20000 in
set_option maxHeartbeats 8000000 in
theorem walk (a0 : Option Addr) (len0 cap0 : Nat) (z0 : List Int) (w : World) (w0 : IsRow .u8 w a0 len0 cap0 z0) :
    Calls Try.prog 3 #[.slice a0 len0 cap0] w fun e w' => e = .returned (.bool true) ∧ Below w.heap.size w w' := by
  have HS : Hid (Src w.heap.size w a0 len0) := src_of_row w0
  clear w0
  by_cases hbig : (1048576 : Int) < (len0 : Int)
  · go_enter Try.func3, Try.ntmps3
    go_wp2_with (go_at_call 4; refine (big_laws _ _ _ _).mono ?_; rintro e w' ⟨rfl, hw⟩; subst w')
    go_ret
    exact ⟨rfl, Below.refl _ _⟩
  · have hl : len0 ≤ 1048576 := by omega
    have hd : decide ((1048576 : Int) < (len0 : Int)) = false := by simpa using hbig
    clear hbig
    go_enter Try.func3, Try.ntmps3
    go_wp2_with (go_at_call 4; refine (big_laws _ _ _ _).mono ?_; rintro e w' ⟨rfl, hw⟩; subst w')
    refine (drawIndexOf_spec HS.out hl).mono ?_
    rintro e w1 ⟨v, l, p, rfl, ⟨hl4, hnr⟩, p1, p2, hn, hb⟩
    obtain ⟨ad, c, rfl, hi⟩ := hn.ints
    have A1 : Hid (Ints w1 ad l) := hi
    have HB1 : Hid (Below w.heap.size w w1) := hb
    have HT1 : Hid (Below w.heap.size w w1) := hb
    clear hn hb hi hnr HS hd hl
    have hlen := indexV_len l p
    have HIO : Hid (sizeV l ≤ p + 1 → indexV l (p + 1) = []) := fun h => indexV_out (.inr (.inr h))
    have HGR : Hid (0 ≤ p → p + 1 ≤ sizeV l - 1 → Grows l (indexV l p) (indexV l (p + 1))) := grows
    go_wp2_with fail
    refine (index_impl p _ A1.out).mono ?_
    rintro e w2 ⟨v2, rfl, hv, hb⟩
    have HB2 : Hid (Below w1.heap.size w1 w2) := hb
    obtain ⟨av, cv, rfl, hi⟩ := hv.ints
    have V2 : Hid (Ints w2 av (indexV l p)) := hi
    clear hv hb hi
    have HT2 : Hid (Below w.heap.size w w2) := bTrans HT1.out HB2.out
    have A2 : Hid (Ints w2 ad l) := A1.out.keep HB2.out
    clear A1
    go_wp2_with fail
    refine (index_impl (p + 1) _ A2.out).mono ?_
    rintro e w3 ⟨v3, rfl, hv, hb⟩
    have HB3 : Hid (Below w2.heap.size w2 w3) := hb
    obtain ⟨au, cu, rfl, hi⟩ := hv.ints
    have U3 : Hid (Ints w3 au (indexV l (p + 1))) := hi
    clear hv hb hi
    have HT3 : Hid (Below w.heap.size w w3) := bTrans HT2.out HB3.out
    have A3 : Hid (Ints w3 ad l) := A2.out.keep HB3.out
    have V3 : Hid (Ints w3 av (indexV l p)) := V2.out.keep HB3.out
    clear A2 V2
    go_wp2_with fail
    refine (size_impl _ A3.out).mono ?_
    rintro e w4 ⟨rfl, hb⟩
    have HB4 : Hid (Below w3.heap.size w3 w4) := hb
    clear hb
    have HT4 : Hid (Below w.heap.size w w4) := bTrans HT3.out HB4.out
    have A4 : Hid (Ints w4 ad l) := A3.out.keep HB4.out
    have V4 : Hid (Ints w4 av (indexV l p)) := V3.out.keep HB4.out
    have U4 : Hid (Ints w4 au (indexV l (p + 1))) := U3.out.keep HB4.out
    clear A3 V3 U3
    go_wp2_with fail
    refine (size_spec _ A4.out).mono ?_
    rintro e w' ⟨rfl, hw⟩
    subst w'
    go_wp2_with fail
    refine (index_spec p _ A4.out).mono ?_
    rintro e w5 ⟨rfl, hw⟩
    have HB5 : Hid (Below w4.heap.size w4 w5) := by rw [hw]; exact (Below.refl _ _).alloc (Nat.le_refl _) _
    have R5 : Hid (Ints w5 (some ⟨w4.heap.size, 0, none⟩) (indexV l p)) := by rw [hw]; exact ints_new w4 _ _
    clear hw
    have HT5 : Hid (Below w.heap.size w w5) := bTrans HT4.out HB5.out
    have A5 : Hid (Ints w5 ad l) := A4.out.keep HB5.out
    have V5 : Hid (Ints w5 av (indexV l p)) := V4.out.keep HB5.out
    have U5 : Hid (Ints w5 au (indexV l (p + 1))) := U4.out.keep HB5.out
    clear A4 V4 U4
    go_wp2_with fail
    refine (same_ints _ _ (by omega) V5.out R5.out).mono ?_
    rintro e w6 ⟨rfl, j, hw⟩
    have HB6 : Hid (Below w5.heap.size w5 w6) := by rw [hw]; exact bDrewN (Below.refl _ _) j
    clear hw j
    have HT6 : Hid (Below w.heap.size w w6) := bTrans HT5.out HB6.out
    have A6 : Hid (Ints w6 ad l) := A5.out.keep HB6.out
    have V6 : Hid (Ints w6 av (indexV l p)) := V5.out.keep HB6.out
    have U6 : Hid (Ints w6 au (indexV l (p + 1))) := U5.out.keep HB6.out
    clear A5 V5 U5
    obtain ⟨z1, z2⟩ := sizeV_bd l
    clear HB1 HB2 HB3 HB4 HB5 HB6 HT1 HT2 HT3 HT4 HT5 R5
    by_cases q0 : p < 0
    · go_wp2
      go_ret
      exact ⟨rfl, HT6.out⟩
    by_cases q1 : sizeV l ≤ p + 1
    · have e0 : (indexV l (p + 1)).length = 0 := by rw [HIO.out q1]; rfl
      have E0 : Hid ((indexV l (p + 1)).length = 0) := e0
      have e1 : (((indexV l (p + 1)).length : Int) == 0) = true := by rw [e0]; rfl
      clear e0
      go_wp2
      go_ret
      exact ⟨by simp [E0.out], HT6.out⟩
    have G : Hid (Grows l (indexV l p) (indexV l (p + 1))) := HGR.out (by omega) (by omega)
    clear HIO HGR hlen
    generalize hsz : sizeV l = sz at *
    clear hsz
    generalize indexV l p = a at *
    generalize indexV l (p + 1) = b at *
    rcases G.out with ⟨x, a0, rfl, rfl, rfl, ne, x0, x1, i0, i1⟩ | ⟨x, y, a0, a1, rfl, rfl, rfl, ne, x0, x1, y0, y1, i0, i1, i2, i3⟩ | ⟨x, y, a0, rfl, rfl, rfl, ne, x0, x1, y0, y1, i0, i1⟩ | ⟨x, y, z, a0, a1, a2, rfl, rfl, rfl, ne, x0, x1, y0, y1, zz0, zz1, i0, i1⟩ | ⟨x, y, z, a0, a1, rfl, rfl, rfl, ne, x0, x1, y0, y1, zz0, zz1, i0, i1⟩ | ⟨x, y, z, a0, rfl, rfl, rfl, ne, x0, x1, y0, y1, zz0, zz1, i0, i1⟩
    · clear G
      rcases A6.out with h | ⟨bA, oA, rfl, _, hA⟩
      · cases h
      rcases V6.out with h | ⟨bV, oV, rfl, _, hV⟩
      · cases h
      rcases U6.out with h | ⟨bU, oU, rfl, _, hU⟩
      · cases h
      have ac0 : w6.cell? ⟨bA, oA, none⟩ = some (.int .i64 (x)) := hA 0 (by simp)
      clear hA
      have vc0 : w6.cell? ⟨bV, oV, none⟩ = some (.int .i64 (a0)) := hV 0 (by simp)
      clear hV
      have uc0 : w6.cell? ⟨bU, oU, none⟩ = some (.int .i64 (a0 + 1)) := hU 0 (by simp)
      clear hU
      have ne' : ((a0 : Int) == x - 1) = false := by simpa using ne
      clear A6 V6 U6
      go_wp2
      refine wp_loop_rounds 1 ?_
      rw [rounds_succ]
      go_wp2
      go_quiet (fail)
      go_wp2
      go_quiet (fail)
      go_wp2
      refine wp_loop_rounds 1 ?_
      rw [rounds_succ]
      go_wp2
      go_ret
      exact ⟨rfl, by repeat (first | exact HT6.out | apply bDrewN)⟩
    · clear G
      rcases A6.out with h | ⟨bA, oA, rfl, _, hA⟩
      · cases h
      rcases V6.out with h | ⟨bV, oV, rfl, _, hV⟩
      · cases h
      rcases U6.out with h | ⟨bU, oU, rfl, _, hU⟩
      · cases h
      have ac0 : w6.cell? ⟨bA, oA, none⟩ = some (.int .i64 (x)) := hA 0 (by simp)
      have ac1 : w6.cell? ⟨bA, oA + 1, none⟩ = some (.int .i64 (y)) := hA 1 (by simp)
      clear hA
      have vc0 : w6.cell? ⟨bV, oV, none⟩ = some (.int .i64 (a0)) := hV 0 (by simp)
      have vc1 : w6.cell? ⟨bV, oV + 1, none⟩ = some (.int .i64 (a1)) := hV 1 (by simp)
      clear hV
      have uc0 : w6.cell? ⟨bU, oU, none⟩ = some (.int .i64 (a0)) := hU 0 (by simp)
      have uc1 : w6.cell? ⟨bU, oU + 1, none⟩ = some (.int .i64 (a1 + 1)) := hU 1 (by simp)
      clear hU
      have ne' : ((a1 : Int) == y - 1) = false := by simpa using ne
      clear A6 V6 U6
      go_wp2
      refine wp_loop_rounds 1 ?_
      rw [rounds_succ]
      go_wp2
      go_quiet (fail)
      go_wp2
      go_quiet (fail)
      go_wp2
      refine wp_loop_rounds 2 ?_
      rw [rounds_succ]
      go_wp2
      go_quiet (fail)
      go_wp2
      rw [rounds_succ]
      go_wp2
      go_ret
      exact ⟨rfl, by repeat (first | exact HT6.out | apply bDrewN)⟩
    · clear G
      rcases A6.out with h | ⟨bA, oA, rfl, _, hA⟩
      · cases h
      rcases V6.out with h | ⟨bV, oV, rfl, _, hV⟩
      · cases h
      rcases U6.out with h | ⟨bU, oU, rfl, _, hU⟩
      · cases h
      have ac0 : w6.cell? ⟨bA, oA, none⟩ = some (.int .i64 (x)) := hA 0 (by simp)
      have ac1 : w6.cell? ⟨bA, oA + 1, none⟩ = some (.int .i64 (y)) := hA 1 (by simp)
      clear hA
      have vc0 : w6.cell? ⟨bV, oV, none⟩ = some (.int .i64 (a0)) := hV 0 (by simp)
      have vc1 : w6.cell? ⟨bV, oV + 1, none⟩ = some (.int .i64 (y - 1)) := hV 1 (by simp)
      clear hV
      have uc0 : w6.cell? ⟨bU, oU, none⟩ = some (.int .i64 (a0 + 1)) := hU 0 (by simp)
      have uc1 : w6.cell? ⟨bU, oU + 1, none⟩ = some (.int .i64 (0)) := hU 1 (by simp)
      clear hU
      have ne' : ((a0 : Int) == x - 1) = false := by simpa using ne
      clear A6 V6 U6
      go_wp2
      refine wp_loop_rounds 2 ?_
      rw [rounds_succ]
      go_wp2
      go_quiet (fail)
      go_wp2
      rw [rounds_succ]
      go_wp2
      go_quiet (fail)
      go_wp2
      go_quiet (fail)
      go_wp2
      refine wp_loop_rounds 1 ?_
      rw [rounds_succ]
      go_wp2
      go_ret
      exact ⟨rfl, by repeat (first | exact HT6.out | apply bDrewN)⟩
    · clear G
      rcases A6.out with h | ⟨bA, oA, rfl, _, hA⟩
      · cases h
      rcases V6.out with h | ⟨bV, oV, rfl, _, hV⟩
      · cases h
      rcases U6.out with h | ⟨bU, oU, rfl, _, hU⟩
      · cases h
      have ac0 : w6.cell? ⟨bA, oA, none⟩ = some (.int .i64 (x)) := hA 0 (by simp)
      have ac1 : w6.cell? ⟨bA, oA + 1, none⟩ = some (.int .i64 (y)) := hA 1 (by simp)
      have ac2 : w6.cell? ⟨bA, oA + 2, none⟩ = some (.int .i64 (z)) := hA 2 (by simp)
      clear hA
      have vc0 : w6.cell? ⟨bV, oV, none⟩ = some (.int .i64 (a0)) := hV 0 (by simp)
      have vc1 : w6.cell? ⟨bV, oV + 1, none⟩ = some (.int .i64 (a1)) := hV 1 (by simp)
      have vc2 : w6.cell? ⟨bV, oV + 2, none⟩ = some (.int .i64 (a2)) := hV 2 (by simp)
      clear hV
      have uc0 : w6.cell? ⟨bU, oU, none⟩ = some (.int .i64 (a0)) := hU 0 (by simp)
      have uc1 : w6.cell? ⟨bU, oU + 1, none⟩ = some (.int .i64 (a1)) := hU 1 (by simp)
      have uc2 : w6.cell? ⟨bU, oU + 2, none⟩ = some (.int .i64 (a2 + 1)) := hU 2 (by simp)
      clear hU
      have ne' : ((a2 : Int) == z - 1) = false := by simpa using ne
      clear A6 V6 U6
      go_wp2
      refine wp_loop_rounds 1 ?_
      rw [rounds_succ]
      go_wp2
      go_quiet (fail)
      go_wp2
      go_quiet (fail)
      go_wp2
      refine wp_loop_rounds 3 ?_
      rw [rounds_succ]
      go_wp2
      go_quiet (fail)
      go_wp2
      rw [rounds_succ]
      go_wp2
      go_quiet (fail)
      go_wp2
      rw [rounds_succ]
      go_wp2
      go_ret
      exact ⟨rfl, by repeat (first | exact HT6.out | apply bDrewN)⟩
    · clear G
      rcases A6.out with h | ⟨bA, oA, rfl, _, hA⟩
      · cases h
      rcases V6.out with h | ⟨bV, oV, rfl, _, hV⟩
      · cases h
      rcases U6.out with h | ⟨bU, oU, rfl, _, hU⟩
      · cases h
      have ac0 : w6.cell? ⟨bA, oA, none⟩ = some (.int .i64 (x)) := hA 0 (by simp)
      have ac1 : w6.cell? ⟨bA, oA + 1, none⟩ = some (.int .i64 (y)) := hA 1 (by simp)
      have ac2 : w6.cell? ⟨bA, oA + 2, none⟩ = some (.int .i64 (z)) := hA 2 (by simp)
      clear hA
      have vc0 : w6.cell? ⟨bV, oV, none⟩ = some (.int .i64 (a0)) := hV 0 (by simp)
      have vc1 : w6.cell? ⟨bV, oV + 1, none⟩ = some (.int .i64 (a1)) := hV 1 (by simp)
      have vc2 : w6.cell? ⟨bV, oV + 2, none⟩ = some (.int .i64 (z - 1)) := hV 2 (by simp)
      clear hV
      have uc0 : w6.cell? ⟨bU, oU, none⟩ = some (.int .i64 (a0)) := hU 0 (by simp)
      have uc1 : w6.cell? ⟨bU, oU + 1, none⟩ = some (.int .i64 (a1 + 1)) := hU 1 (by simp)
      have uc2 : w6.cell? ⟨bU, oU + 2, none⟩ = some (.int .i64 (0)) := hU 2 (by simp)
      clear hU
      have ne' : ((a1 : Int) == y - 1) = false := by simpa using ne
      clear A6 V6 U6
      go_wp2
      refine wp_loop_rounds 2 ?_
      rw [rounds_succ]
      go_wp2
      go_quiet (fail)
      go_wp2
      rw [rounds_succ]
      go_wp2
      go_quiet (fail)
      go_wp2
      go_quiet (fail)
      go_wp2
      refine wp_loop_rounds 2 ?_
      rw [rounds_succ]
      go_wp2
      go_quiet (fail)
      go_wp2
      rw [rounds_succ]
      go_wp2
      go_ret
      exact ⟨rfl, by repeat (first | exact HT6.out | apply bDrewN)⟩
    · clear G
      rcases A6.out with h | ⟨bA, oA, rfl, _, hA⟩
      · cases h
      rcases V6.out with h | ⟨bV, oV, rfl, _, hV⟩
      · cases h
      rcases U6.out with h | ⟨bU, oU, rfl, _, hU⟩
      · cases h
      have ac0 : w6.cell? ⟨bA, oA, none⟩ = some (.int .i64 (x)) := hA 0 (by simp)
      have ac1 : w6.cell? ⟨bA, oA + 1, none⟩ = some (.int .i64 (y)) := hA 1 (by simp)
      have ac2 : w6.cell? ⟨bA, oA + 2, none⟩ = some (.int .i64 (z)) := hA 2 (by simp)
      clear hA
      have vc0 : w6.cell? ⟨bV, oV, none⟩ = some (.int .i64 (a0)) := hV 0 (by simp)
      have vc1 : w6.cell? ⟨bV, oV + 1, none⟩ = some (.int .i64 (y - 1)) := hV 1 (by simp)
      have vc2 : w6.cell? ⟨bV, oV + 2, none⟩ = some (.int .i64 (z - 1)) := hV 2 (by simp)
      clear hV
      have uc0 : w6.cell? ⟨bU, oU, none⟩ = some (.int .i64 (a0 + 1)) := hU 0 (by simp)
      have uc1 : w6.cell? ⟨bU, oU + 1, none⟩ = some (.int .i64 (0)) := hU 1 (by simp)
      have uc2 : w6.cell? ⟨bU, oU + 2, none⟩ = some (.int .i64 (0)) := hU 2 (by simp)
      clear hU
      have ne' : ((a0 : Int) == x - 1) = false := by simpa using ne
      clear A6 V6 U6
      go_wp2
      refine wp_loop_rounds 3 ?_
      rw [rounds_succ]
      go_wp2
      go_quiet (fail)
      go_wp2
      rw [rounds_succ]
      go_wp2
      go_quiet (fail)
      go_wp2
      rw [rounds_succ]
      go_wp2
      go_quiet (fail)
      go_wp2
      go_quiet (fail)
      go_wp2
      refine wp_loop_rounds 1 ?_
      rw [rounds_succ]
      go_wp2
      go_ret
      exact ⟨rfl, by repeat (first | exact HT6.out | apply bDrewN)⟩

/-! ### THE ROW's STEP: WRITTEN OUT: LEAVE IT -/
set_option maxRecDepth 100000 in
theorem lifted (os : Os) (started : os.Started) (H : Type) (enc : TypeId × Value → H) :
    ReturnsInHanded {} Try.checked os 3 .any (Rows.fnOrderSpec.pre6 enc Try.prog Try.f3 Rows.fnOrderRow.domain false) (Rows.fnOrderSpec.post enc Try.prog Try.f3 false true false false) := by
  refine returnsInHanded_of_change (C := Try.checked) own started (by kernel_rfl) Try.func3
    (ChangeSpec.witness6 (enc := enc) (C := Try.checked) false ⟨#[], #[.slice none 0 0], []⟩ 8 (by kernel_rfl) (by kernel_rfl) (by kernel_rfl) (by kernel_rfl)) ?_
  intro W base args ds gs before hval0 hW hcnd _
  have hval : ∀ (j : Nat) t v, Try.f3.params[j]? = some t → args[j]? = some v → Value.okWide Try.prog W .any base t v := hval0
  have hW' := hW
  obtain ⟨p, q, hA0, hV, rfl, hfz, hnd⟩ := hW
  have hA : DataW.TrodAll enc Try.prog W 0 (fun _ => true) true Try.f3.params.toList args.toList ds p := hA0
  rw [Try.params3] at hA hval
  obtain ⟨v0, vs0, d0, ds0, p0, q0, hargs, rfl, rfl, h0, r0⟩ := trodAll_cons hA
  obtain ⟨rfl, rfl, rfl⟩ := trodAll_nil r0
  obtain rfl : args = #[v0] := by cases args; simp_all
  obtain ⟨rfl, rfl⟩ := trodVars_none hV
  obtain ⟨a0, len0, cap0, rfl⟩ := okWide_slice Try.underlying22 (hval 0 22 v0 rfl rfl)
  have k0 := h0
  have lt0 : ∀ x ∈ p0, x.block < W.heap.size := by obtain ⟨m, hm⟩ := k0; exact DataW.trod_lt m _ _ _ hm
  obtain ⟨z0, w0⟩ : ∃ zs, IsRow .u8 W a0 len0 cap0 zs := by
    obtain ⟨fuel, hf⟩ := h0
    rcases open_ints Try.underlying22 Try.underlying5 (by kernel_rfl) hf with ⟨hcs, _⟩ | ⟨x, l, c, zs, hcs, _, hl, hm, hz, _, hcell, hwz⟩
    · simp [Value.cells] at hcs
      obtain ⟨rfl, rfl, rfl⟩ := hcs
      exact ⟨[], .inl ⟨rfl, rfl, rfl, rfl⟩⟩
    · simp [Value.cells] at hcs
      obtain ⟨rfl, rfl, rfl⟩ := hcs
      exact ⟨zs, .inr ⟨_, rfl, hl, hm, by simpa using hz, hcell, hwz⟩⟩
  clear hA0 hval0
  refine (walk a0 len0 cap0 z0 W w0).mono fun e W' ⟨he, bel⟩ => ?_
  subst he
  exact ⟨_, rfl, _, _, _, [], _, [], hW', trodAll_mk1 (shut_bool Try.underlying4 _), (trodAll_cons_mk (Below.trod laidOut (by kernel_rfl) (of_decide_eq_true (by kernel_rfl)) k0 bel lt0) trodAll_mk0), rfl, bel.frame _, fun h => by cases h⟩

theorem over : Rows.fnOrderRow.holds Try.pinned (OpenSpec.ofChange Rows.fnOrderSpec) :=
  OpenClaim.holds_of_wide 3 Try.f3 rfl rfl rfl rfl rfl rfl rfl ⟨rfl, rfl, rfl, rfl, rfl⟩ rfl rfl rfl rfl rfl (by kernel_rfl) Try.func3 (by kernel_rfl)
    (of_decide_eq_true (by kernel_rfl)) (by unfold Func.isWrapper; first | (rw [if_pos (by decide +kernel)]; kernel_rfl) | (rw [if_neg (by decide +kernel)]; exact ⟨rfl, rfl⟩))
    (fun os started H enc _ => lifted os started H enc)

/-- ████ THE STATEMENT ████ -/
theorem proved : Rows.FnOrderSaid := over
end Go.Proofs.Ytpjmnblkbejdlaj.fnOrder
namespace Go.Proofs.Ytpjmnblkbejdlaj
theorem fnOrder_holds : Rows.FnOrderSaid := fnOrder.proved
#print axioms fnOrder_holds
end Go.Proofs.Ytpjmnblkbejdlaj
