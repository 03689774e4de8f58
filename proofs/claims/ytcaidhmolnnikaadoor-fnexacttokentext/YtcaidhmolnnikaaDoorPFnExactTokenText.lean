/-
  Proved: at every list of tokens, of any kind and length, the law FnExactTokenText returns true: the program's TokenText answers as the specification's (a list of more than 2^20 tokens passes by the law's own rule) and leaves the list as it was. Condition: strconv's table of powers of ten and the two tables of math/bits hold what their own initialisers lay (the card ties them to the text of the pruned copy of the project that the seat bears: it says nothing of packages beside it).
-/
import Derived.Test.YtcaidhmolnnikaaDoorRows
import Derived.WalkKit
import Derived.ProofKit
import Derived.OpenShut
import Derived.ShutString
import Derived.ChangeOld
import Derived.Below
import Derived.Deep.Cut
import Derived.Test.YtcaidhmolnnikaaDoorTie
import Derived.Test.YtcaidhmolnnikaaDoorCards
import Derived.LaidLaws
import Derived.LaidHandle
import Derived.Lib.LaidTab
import Derived.Lib.LaidIn
import Derived.SevenTiedAt
import Derived.Test.YtcaidhmolnnikaaDoorFrame
import Derived.Test.YtcaidhmolnnikaaDoorTokS
import Derived.Test.YtcaidhmolnnikaaDoorTokI
import Derived.Test.YtcaidhmolnnikaaDoorRowL
import Derived.Test.YtcaidhmolnnikaaDoorLaw3
namespace Go.Proofs.YtcaidhmolnnikaaDoor.fnExactTokenText
open Go.ChangeShapes Go.WideShapes Go.ChangeAt Go.RowKit
open Go.ChangeMaps (open_string shut_string)
set_option linter.unusedVariables false
set_option linter.unusedSimpArgs false

theorem own : ownKnob Tryd.prog.godebug = none := by kernel_rfl
theorem laidOut : laidOutB Tryd.prog = true := by kernel_rfl

set_option maxRecDepth 20000 in
set_option maxHeartbeats 8000000 in
/-- The walk: the law returns true, and writes nothing that was there. -/
theorem walk (v0 : Value) (n0 : Nat) (E0 : Nat → Spn) (w : World) (ht : TabW w) (w0 : TsI w v0 n0 E0) (b0 : n0 ≤ 9223372036854775807) :
    Calls Tryd.prog 6 #[v0] w fun e w' => e = .returned (.bool true) ∧ Below w.heap.size w w' := by
  obtain ⟨a, c, rfl, hac, hA⟩ := w0
  have HS : Hid (SsA w a n0 E0) := hA
  have HTB : Hid (TabW w) := ht
  clear hA ht
  by_cases hbig : n0 ≤ 1048576
  · have CZ : Hid (Calls Tryd.prog 22 #[.slice a n0 c, .int .i64 1048576] w fun e w' => e = .returned (.int .i64 (1048576 - (n0 : Int))) ∧ w' = w) := by
      have h := szTokenS_at a n0 c 1048576 w (by omega) (by omega) b0
      have e : szV n0 1048576 = 1048576 - (n0 : Int) := by unfold szV; rw [if_neg (by omega)]
      rw [e] at h
      exact h
    have hl : ¬ (1048576 - (n0 : Int)) < 0 := by omega
    obtain ⟨V, hV⟩ : ∃ V, V = tokV n0 E0 := ⟨_, rfl⟩
    have HV : Hid (V = tokV n0 E0) := hV
    have hne : (V != V) = false := bytes_bne V
    clear hV
    go_enter Tryd.func6, Tryd.ntmps6
    go_wp2_with fail
    refine CZ.out.mono ?_
    rintro r w' ⟨rfl, hw⟩
    subst w'
    clear CZ
    go_wp2_with fail
    refine (toTokenS_own ⟨a, c, rfl, hac, HS.out⟩ hbig).mono ?_
    rintro r w1 ⟨g1, rfl, hg1, hC, hb⟩
    have B1 : Hid (Below w.heap.size w w1) := hb
    have C1 : Hid (SBlk w1 g1 n0 E0) := hC
    clear hb hC
    go_wp2_with fail
    refine (tokenText_spec C1.out.ssA hbig).mono ?_
    rintro r w2 ⟨rfl, hb⟩
    have B2 : Hid (Below w.heap.size w w2) := bTrans B1.out hb
    clear hb
    rw [← HV.out]
    go_wp2_with fail
    refine (toTokenS_own ⟨a, c, rfl, hac, HS.out.keep B2.out⟩ hbig).mono ?_
    rintro r w3 ⟨g3, rfl, hg3, hC, hb⟩
    have B3 : Hid (Below w.heap.size w w3) := bTrans B2.out hb
    have C3 : Hid (SBlk w3 g3 n0 E0) := hC
    clear hb hC
    go_wp2_with fail
    refine (tokenText_impl joins C3.out.ssA hbig (HTB.out.on B3.out)).mono ?_
    rintro r w4 ⟨rfl, hb⟩
    have B4 : Hid (Below w.heap.size w w4) := bTrans B3.out hb
    have C4 : Hid (SBlk w4 g3 n0 E0) := C3.out.keep hb
    clear hb
    rw [← HV.out]
    go_wp2_with fail
    refine (toTokenS_own ⟨a, c, rfl, hac, HS.out.keep B4.out⟩ hbig).mono ?_
    rintro r w5 ⟨g5, rfl, hg5, hC, hb⟩
    have B5 : Hid (Below w.heap.size w w5) := bTrans B4.out hb
    have C5 : Hid (SBlk w5 g5 n0 E0) := hC
    have D5 : Hid (SBlk w5 g3 n0 E0) := C4.out.keep hb
    clear hb hC
    go_wp2_with fail
    refine (eqTokenS_same D5.out.ssA C5.out.ssA hbig).mono ?_
    rintro r w6 ⟨rfl, hb⟩
    have B6 : Hid (Below w.heap.size w w6) := bTrans B5.out hb
    clear hb
    go_wp2
    go_ret
    exact ⟨rfl, B6.out⟩
  · have CZ : Hid (Calls Tryd.prog 22 #[.slice a n0 c, .int .i64 1048576] w fun e w' => e = .returned (.int .i64 (-1)) ∧ w' = w) := by
      have h := szTokenS_at a n0 c 1048576 w (by omega) (by omega) b0
      have e : szV n0 1048576 = -1 := by unfold szV; rw [if_pos (by omega)]
      rw [e] at h
      exact h
    go_enter Tryd.func6, Tryd.ntmps6
    go_wp2_with fail
    refine CZ.out.mono ?_
    rintro r w' ⟨rfl, hw⟩
    subst w'
    clear CZ
    go_wp2
    go_ret
    exact ⟨rfl, Below.refl _ _⟩

set_option maxRecDepth 100000 in
/-- From the row's condition to the table that the walk wants: one variable less. -/
theorem laidMet_tail {x : String × DataW Unit} {r : List (String × DataW Unit)} {W : World} (h : laidMet Tryd.prog (x :: r) W) : laidMet Tryd.prog r W := by
  obtain ⟨n, d⟩ := x
  obtain ⟨ps, ⟨g, t, cs, fuel, p, q, _, _, _, _, h5, rfl⟩, hn, hr⟩ := h
  exact ⟨q, h5, (List.nodup_append.1 hn).2.1, fun b off hb => hr b off (List.mem_append_right _ hb)⟩
theorem tab_laid {W : World} (h : laidMetH Tryd.prog Rows.fnExactTokenTextRow.laid W) : TabW W := by
  have h1 : laidMet Tryd.prog Rows.fnExactTokenTextRow.laid W := h
  have h2 : laidMet Tryd.prog [("internal/strconv.uint64pow10", Lib.tabData .u64 Lib.pow10Tab)] W := laidMet_tail (laidMet_tail h1)
  exact Lib.tabBelow_of_tabIs (Lib.tabIs_of_head (g := 2) (t := 187) (e := 169) (n := 20) (by kernel_rfl) (by kernel_rfl) (by kernel_rfl) (by kernel_rfl) (by kernel_rfl) (by kernel_rfl) h2)
/-- A world that meets the condition: the settled one, the tables laid. -/
noncomputable def laidWorld (os : Os) : World :=
  let w0 := World.holding Tryd.prog os ⟨#[], #[], []⟩
  { w0 with heap := (((w0.heap.modify 5 fun | .cells _ t frozen => .cells #[.int .u8 0, .int .u8 1, .int .u8 28, .int .u8 2, .int .u8 29, .int .u8 14, .int .u8 24, .int .u8 3, .int .u8 30, .int .u8 22, .int .u8 20, .int .u8 15, .int .u8 25, .int .u8 17, .int .u8 4, .int .u8 8, .int .u8 31, .int .u8 27, .int .u8 13, .int .u8 23, .int .u8 21, .int .u8 19, .int .u8 16, .int .u8 7, .int .u8 26, .int .u8 12, .int .u8 18, .int .u8 6, .int .u8 11, .int .u8 5, .int .u8 10, .int .u8 9] t frozen | o => o).modify 6 fun | .cells _ t frozen => .cells #[.int .u8 0, .int .u8 1, .int .u8 56, .int .u8 2, .int .u8 57, .int .u8 49, .int .u8 28, .int .u8 3, .int .u8 61, .int .u8 58, .int .u8 42, .int .u8 50, .int .u8 38, .int .u8 29, .int .u8 17, .int .u8 4, .int .u8 62, .int .u8 47, .int .u8 59, .int .u8 36, .int .u8 45, .int .u8 43, .int .u8 51, .int .u8 22, .int .u8 53, .int .u8 39, .int .u8 33, .int .u8 30, .int .u8 24, .int .u8 18, .int .u8 12, .int .u8 5, .int .u8 63, .int .u8 55, .int .u8 48, .int .u8 27, .int .u8 60, .int .u8 41, .int .u8 37, .int .u8 16, .int .u8 46, .int .u8 35, .int .u8 44, .int .u8 21, .int .u8 52, .int .u8 32, .int .u8 23, .int .u8 11, .int .u8 54, .int .u8 26, .int .u8 40, .int .u8 15, .int .u8 34, .int .u8 20, .int .u8 31, .int .u8 10, .int .u8 25, .int .u8 14, .int .u8 19, .int .u8 9, .int .u8 13, .int .u8 8, .int .u8 7, .int .u8 6] t frozen | o => o).modify 2 fun | .cells _ t frozen => .cells #[.int .u64 1, .int .u64 10, .int .u64 100, .int .u64 1000, .int .u64 10000, .int .u64 100000, .int .u64 1000000, .int .u64 10000000, .int .u64 100000000, .int .u64 1000000000, .int .u64 10000000000, .int .u64 100000000000, .int .u64 1000000000000, .int .u64 10000000000000, .int .u64 100000000000000, .int .u64 1000000000000000, .int .u64 10000000000000000, .int .u64 100000000000000000, .int .u64 1000000000000000000, .int .u64 10000000000000000000] t frozen | o => o) }
theorem laid_met (os : Os) (args : Array Value) : laidMetH Tryd.prog Rows.fnExactTokenTextRow.laid ((laidWorld os).forCall (fun _ _ => 0) ⟨#[], args, []⟩).memory :=
  (show laidMet Tryd.prog Rows.fnExactTokenTextRow.laid _ from (LaidIn.of_run [5, 6, 2] 8 (by kernel_rfl) (by kernel_rfl) (by kernel_rfl) (by kernel_rfl)).met)
set_option maxRecDepth 100000 in
theorem lifted (os : Os) (started : os.Started) (H : Type) (enc : TypeId × Value → H) :
    ReturnsInHanded {} Tryd.checked os 6 .any (fun w args => (Rows.fnExactTokenTextSpec.pre enc Tryd.prog Tryd.f6 Rows.fnExactTokenTextRow.domain false w args ∧ laidMetH Tryd.prog Rows.fnExactTokenTextRow.laid w) ∧ sizedMet enc Tryd.prog Tryd.f6 (OpenSpec.ofChange Rows.fnExactTokenTextSpec) false w args) (Rows.fnExactTokenTextSpec.post enc Tryd.prog Tryd.f6 false true false false) := by
  refine returnsInHanded_of_change_and (C := Tryd.checked) (X := fun w _ => laidMetH Tryd.prog Rows.fnExactTokenTextRow.laid w) (fun _ _ _ hh h => h.of_heap hh) own started (by kernel_rfl) Tryd.func6
    (ChangeSpec.witness_at (enc := enc) (C := Tryd.checked) (os := os) (X := fun w _ => laidMetH Tryd.prog Rows.fnExactTokenTextRow.laid w) false (laidWorld os) #[.slice none 0 0] 8 rfl (by kernel_rfl) (by kernel_rfl) (by kernel_rfl) (by kernel_rfl) (by kernel_rfl) (laid_met os _)) ?_
  intro W base args ds gs before hval0 hW hcnd _ hL _
  have htb := tab_laid hL
  have hval : ∀ (j : Nat) t v, Tryd.f6.params[j]? = some t → args[j]? = some v → Value.okWide Tryd.prog W .any base t v := hval0
  have hW' := hW
  obtain ⟨p, q, hA0, hV, rfl, hfz, hnd⟩ := hW
  have hA : DataW.TrodAll enc Tryd.prog W 0 (fun _ => true) true Tryd.f6.params.toList args.toList ds p := hA0
  rw [Tryd.params6] at hA hval
  obtain ⟨v0, vs0, e0, es0, p0, q0, hargs, rfl, rfl, h0, r0⟩ := trodAll_cons hA
  obtain ⟨rfl, rfl, rfl⟩ := trodAll_nil r0
  obtain rfl : args = #[v0] := by cases args; simp_all
  obtain ⟨rfl, rfl⟩ := trodVars_none hV
  have k0 := h0
  have lt0 : ∀ x ∈ p0, x.block < W.heap.size := by obtain ⟨m, hm⟩ := k0; exact DataW.trod_lt m _ _ _ hm
  obtain ⟨x0, len0, cap0, rfl⟩ := okWide_slice Tryd.underlying42 (hval 0 42 v0 rfl rfl)
  obtain ⟨n0, E0, w0, b0⟩ := (by obtain ⟨fuel, hf⟩ := h0; exact cell_toks hf : ∃ (n : Nat) (E : Nat → Spn), TsI W (.slice x0 len0 cap0) n E ∧ n ≤ 9223372036854775807)
  clear hA0 hval0
  refine (walk _ n0 E0 W htb w0 b0).mono fun e W' ⟨he, bel⟩ => ?_
  subst he
  exact ⟨_, rfl, _, _, _, [], _, [], hW', trodAll_mk1 (shut_bool Tryd.underlying4 _), (trodAll_cons_mk (Below.trod laidOut (by kernel_rfl) (of_decide_eq_true (by kernel_rfl)) k0 bel lt0) trodAll_mk0), rfl, bel.frame _, fun h => by cases h⟩

theorem over : Rows.fnExactTokenTextRow.holds Tryd.pinned (OpenSpec.ofChange Rows.fnExactTokenTextSpec) :=
  OpenClaim.holds_of_wide 6 Tryd.f6 rfl rfl rfl rfl rfl rfl rfl ⟨rfl, rfl, rfl, rfl, rfl⟩ rfl rfl rfl rfl rfl (by kernel_rfl) Tryd.func6 (by kernel_rfl)
    (of_decide_eq_true (by kernel_rfl)) (by unfold Func.isWrapper; first | (rw [if_pos (by decide +kernel)]; kernel_rfl) | (rw [if_neg (by decide +kernel)]; exact ⟨rfl, rfl⟩))
    (fun os started H enc _ => lifted os started H enc)

/-- The tied card. -/
theorem proved : Rows.FnExactTokenTextCardSaid :=
  Claim7.holds_tied_plain_at .later [] [.data, .data, .data] true (true, "e0d43b49639fadf0174f43a0310a09b668d7ea07179f084392e28d7dbac78fdf") true
    over (fun _ h => by cases h) (by kernel_rfl) (fun _ h => by cases h) fnExactTokenText_row_tie rfl ⟨rfl, rfl⟩ (by kernel_rfl) rfl
    (fun f fn hf hfn => by
      obtain rfl : f = 6 := Option.some.inj ((show Tryd.prog.funcNamed "loop.example/g00182/laws.FnExactTokenText" = some 6 by kernel_rfl).symm.trans hf) |>.symm
      obtain rfl : fn = Tryd.f6 := (Option.some.inj (Tryd.func6.symm.trans hfn)).symm
      exact ⟨by kernel_rfl, fun j t ht => by
        rw [Tryd.params6] at ht
        have hm : t ∈ [42] := List.mem_of_getElem? (by simpa using ht)
        simp only [List.mem_cons, List.not_mem_nil, or_false] at hm
        have hz : ∀ x ∈ [42], Tryd.prog.wantsStandIn x = false := by
          intro x hx
          simp only [List.mem_cons, List.not_mem_nil, or_false] at hx
          first
            | (subst hx; kernel_rfl)
            | (rcases hx with rfl | rfl <;> kernel_rfl)
            | (rcases hx with rfl | rfl | rfl <;> kernel_rfl)
        exact hz t (by simpa using hm)⟩)
    (by kernel_rfl)
end Go.Proofs.YtcaidhmolnnikaaDoor.fnExactTokenText
namespace Go.Proofs.YtcaidhmolnnikaaDoor
theorem fnExactTokenText_holds : Rows.FnExactTokenTextCardSaid := fnExactTokenText.proved
#print axioms fnExactTokenText_holds
end Go.Proofs.YtcaidhmolnnikaaDoor
