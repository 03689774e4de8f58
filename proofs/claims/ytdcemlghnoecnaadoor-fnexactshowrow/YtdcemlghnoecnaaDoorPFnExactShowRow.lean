/-
  Proved: whatever list it is given, the law FnExactShowRow returns true (the program's ShowRow answers as the specification's, and writes into no argument), and what it is given reads as before. Condition: strconv's table of powers of ten and the two tables of math/bits hold what their own initialisers lay (the card ties them to the text of the pruned copy of the project that the seat bears: it says nothing of packages beside it).
-/
import Derived.Test.YtdcemlghnoecnaaDoorRows
import Derived.WalkKit
import Derived.ProofKit
import Derived.OpenShut
import Derived.ShutString
import Derived.ChangeOld
import Derived.Below
import Derived.Deep.Cut
import Derived.Test.YtdcemlghnoecnaaDoorTie
import Derived.Test.YtdcemlghnoecnaaDoorCards
import Derived.LaidLaws
import Derived.LaidHandle
import Derived.Lib.LaidTab
import Derived.Lib.LaidIn
import Derived.SevenTiedAt
import Derived.Test.YtdcemlghnoecnaaDoorFrame
import Derived.Test.YtdcemlghnoecnaaDoorRowI2
import Derived.Test.YtdcemlghnoecnaaDoorRowL
import Derived.Test.YtdcemlghnoecnaaDoorLaw3
namespace Go.Proofs.YtdcemlghnoecnaaDoor.fnExactShowRow
open Go.ChangeShapes Go.WideShapes Go.ChangeAt Go.RowKit
open Go.ChangeMaps (open_string shut_string)
set_option linter.unusedVariables false
set_option linter.unusedSimpArgs false

theorem own : ownKnob Tryd.prog.godebug = none := by kernel_rfl
theorem laidOut : laidOutB Tryd.prog = true := by kernel_rfl

set_option maxRecDepth 20000 in
set_option maxHeartbeats 8000000 in
/-- The walk: the law returns true, and writes nothing that was there. -/
theorem walk (v0 : Value) (l0 : List Int) (w : World) (ht : TabW w) (w0 : IntsI w v0 l0) (b0 : l0.length ≤ 9223372036854775807) :
    Calls Tryd.prog 4 #[v0] w fun e w' => e = .returned (.bool true) ∧ Below w.heap.size w w' := by
  have H0 : Hid (IntsI w v0 l0) := w0
  obtain ⟨px0, c0', rfl, g1, i1⟩ := w0
  clear i1 g1
  by_cases big0 : (1048576 : Int) < (l0.length : Int)
  · go_enter Tryd.func4, Tryd.ntmps4
    go_wp2
    go_ret
    exact ⟨rfl, by repeat first | exact Below.refl _ _ | refine bAlloc ?_ _⟩
  have Ll0 : Hid (l0.length ≤ 1048576) := by show _ ≤ _; omega
  have hl0 : (l0.length : Int) ≤ 1048576 := by omega
  clear big0 b0
  obtain ⟨V, hV⟩ : ∃ x, x = rowV l0 := ⟨_, rfl⟩
  have SP : Hid (∀ (W : World) (u0 : Value) (_ : IntsI W u0 l0), Calls Tryd.prog 11 #[u0] W fun e w' => e = .returned (.string V) ∧ Below W.heap.size W w') := by
    intro W u0 h0
    rw [hV]
    obtain ⟨a, c, rfl, _, i⟩ := h0
    exact showRow_spec c i Ll0.out
  have IM : Hid (∀ (W : World) (_ : Below w.heap.size w W) (u0 : Value) (_ : IntsI W u0 l0), Calls Tryd.prog 13 #[u0] W fun e w' => e = .returned (.string V) ∧ Below W.heap.size W w') := by
    intro W hbl u0 h0
    rw [hV]
    obtain ⟨a, c, rfl, _, i⟩ := h0
    exact showRow_impl reps joins c i Ll0.out (ht.on hbl)
  clear hV
  go_enter Tryd.func4, Tryd.ntmps4
  have HT0 : Hid (Below w.heap.size w w) := Below.refl _ _
  go_wp2_with fail
  refine (to_listI (H0.out) Ll0.out).mono ?_
  rintro r w1 ⟨vT0, rfl, ha, hb⟩
  obtain ⟨aT0, cT0, rfl, _⟩ := ha.ints
  have T0_1 : Hid (Piece w.heap.size w1.heap.size w1 (.slice aT0 l0.length cT0) l0) := ha.mono (by first | exact Nat.le_refl _ | simp | (simp; omega)) (Nat.le_refl _)
  clear ha
  have HB1 : Hid (Below w.heap.size w w1) := hb
  have HT1 : Hid (Below w.heap.size w w1) := HB1.out
  have SZ1 : Hid (w.heap.size ≤ w1.heap.size) := HB1.out.size
  clear hb
  go_wp2_with fail
  refine (SP.out _ _ (T0_1.out.intsI)).mono ?_
  rintro r w2 ⟨rfl, hb⟩
  have HB2 : Hid (Below w1.heap.size w1 w2) := hb
  have HT2 : Hid (Below w.heap.size w w2) := bTrans HT1.out HB2.out
  have SZ2 : Hid (w1.heap.size ≤ w2.heap.size) := HB2.out.size
  have T0_2 : Hid (Piece w.heap.size w1.heap.size w2 (.slice aT0 l0.length cT0) l0) := T0_1.out.keep HB2.out
  clear T0_1 hb
  go_wp2_with fail
  refine (to_listI (H0.out.keep HT2.out) Ll0.out).mono ?_
  rintro r w3 ⟨vX0, rfl, ha, hb⟩
  obtain ⟨aX0, cX0, rfl, _⟩ := ha.ints
  have X0_3 : Hid (Piece w2.heap.size w3.heap.size w3 (.slice aX0 l0.length cX0) l0) := ha.mono (by first | exact Nat.le_refl _ | simp | (simp; omega)) (Nat.le_refl _)
  clear ha
  have HB3 : Hid (Below w2.heap.size w2 w3) := hb
  have HT3 : Hid (Below w.heap.size w w3) := bTrans HT2.out HB3.out
  have SZ3 : Hid (w2.heap.size ≤ w3.heap.size) := HB3.out.size
  clear hb
  go_wp2_with fail
  refine (IM.out _ HT3.out _ (X0_3.out.intsI)).mono ?_
  rintro r w4 ⟨rfl, hb⟩
  have HB4 : Hid (Below w3.heap.size w3 w4) := hb
  have HT4 : Hid (Below w.heap.size w w4) := bTrans HT3.out HB4.out
  have SZ4 : Hid (w3.heap.size ≤ w4.heap.size) := HB4.out.size
  have X0_4 : Hid (Piece w2.heap.size w3.heap.size w4 (.slice aX0 l0.length cX0) l0) := X0_3.out.keep HB4.out
  clear X0_3 hb
  have hneV : (V != V) = false := bytes_bne V
  go_wp2_with fail
  refine (to_listI (H0.out.keep HT4.out) Ll0.out).mono ?_
  rintro r w5 ⟨vE0, rfl, ha, hb⟩
  obtain ⟨aE0, cE0, rfl, _⟩ := ha.ints
  have E0_5 : Hid (Piece w4.heap.size w5.heap.size w5 (.slice aE0 l0.length cE0) l0) := ha.mono (by first | exact Nat.le_refl _ | simp | (simp; omega)) (Nat.le_refl _)
  clear ha
  have HB5 : Hid (Below w4.heap.size w4 w5) := hb
  have HT5 : Hid (Below w.heap.size w w5) := bTrans HT4.out HB5.out
  have SZ5 : Hid (w4.heap.size ≤ w5.heap.size) := HB5.out.size
  have X0_5 : Hid (Piece w2.heap.size w3.heap.size w5 (.slice aX0 l0.length cX0) l0) := X0_4.out.keep HB5.out
  clear X0_4 hb
  go_wp2_with fail
  refine (eq_listI (X0_5.out.intsI) (E0_5.out.intsI) Ll0.out).mono ?_
  rintro r w6 ⟨rfl, hb⟩
  have HB6 : Hid (Below w5.heap.size w5 w6) := hb
  have HT6 : Hid (Below w.heap.size w w6) := bTrans HT5.out HB6.out
  have SZ6 : Hid (w5.heap.size ≤ w6.heap.size) := HB6.out.size
  have X0_6 : Hid (Piece w2.heap.size w3.heap.size w6 (.slice aX0 l0.length cX0) l0) := X0_5.out.keep HB6.out
  have E0_6 : Hid (Piece w4.heap.size w5.heap.size w6 (.slice aE0 l0.length cE0) l0) := E0_5.out.keep HB6.out
  clear X0_5 E0_5 hb
  go_wp2
  go_ret
  exact ⟨rfl, HT6.out⟩

set_option maxRecDepth 100000 in
/-- From the row's condition to the table that the walk wants: one variable less. -/
theorem laidMet_tail {x : String × DataW Unit} {r : List (String × DataW Unit)} {W : World} (h : laidMet Tryd.prog (x :: r) W) : laidMet Tryd.prog r W := by
  obtain ⟨n, d⟩ := x
  obtain ⟨ps, ⟨g, t, cs, fuel, p, q, _, _, _, _, h5, rfl⟩, hn, hr⟩ := h
  exact ⟨q, h5, (List.nodup_append.1 hn).2.1, fun b off hb => hr b off (List.mem_append_right _ hb)⟩
theorem tab_laid {W : World} (h : laidMetH Tryd.prog Rows.fnExactShowRowRow.laid W) : TabW W := by
  have h1 : laidMet Tryd.prog Rows.fnExactShowRowRow.laid W := h
  have h2 : laidMet Tryd.prog [("internal/strconv.uint64pow10", Lib.tabData .u64 Lib.pow10Tab)] W := laidMet_tail (laidMet_tail h1)
  exact Lib.tabBelow_of_tabIs (Lib.tabIs_of_head (g := 0) (t := 114) (e := 99) (n := 20) (by kernel_rfl) (by kernel_rfl) (by kernel_rfl) (by kernel_rfl) (by kernel_rfl) (by kernel_rfl) h2)
/-- A world that meets the condition: the settled one, the tables laid. -/
noncomputable def laidWorld (os : Os) : World :=
  let w0 := World.holding Tryd.prog os ⟨#[], #[], []⟩
  { w0 with heap := (((w0.heap.modify 2 fun | .cells _ t frozen => .cells #[.int .u8 0, .int .u8 1, .int .u8 28, .int .u8 2, .int .u8 29, .int .u8 14, .int .u8 24, .int .u8 3, .int .u8 30, .int .u8 22, .int .u8 20, .int .u8 15, .int .u8 25, .int .u8 17, .int .u8 4, .int .u8 8, .int .u8 31, .int .u8 27, .int .u8 13, .int .u8 23, .int .u8 21, .int .u8 19, .int .u8 16, .int .u8 7, .int .u8 26, .int .u8 12, .int .u8 18, .int .u8 6, .int .u8 11, .int .u8 5, .int .u8 10, .int .u8 9] t frozen | o => o).modify 3 fun | .cells _ t frozen => .cells #[.int .u8 0, .int .u8 1, .int .u8 56, .int .u8 2, .int .u8 57, .int .u8 49, .int .u8 28, .int .u8 3, .int .u8 61, .int .u8 58, .int .u8 42, .int .u8 50, .int .u8 38, .int .u8 29, .int .u8 17, .int .u8 4, .int .u8 62, .int .u8 47, .int .u8 59, .int .u8 36, .int .u8 45, .int .u8 43, .int .u8 51, .int .u8 22, .int .u8 53, .int .u8 39, .int .u8 33, .int .u8 30, .int .u8 24, .int .u8 18, .int .u8 12, .int .u8 5, .int .u8 63, .int .u8 55, .int .u8 48, .int .u8 27, .int .u8 60, .int .u8 41, .int .u8 37, .int .u8 16, .int .u8 46, .int .u8 35, .int .u8 44, .int .u8 21, .int .u8 52, .int .u8 32, .int .u8 23, .int .u8 11, .int .u8 54, .int .u8 26, .int .u8 40, .int .u8 15, .int .u8 34, .int .u8 20, .int .u8 31, .int .u8 10, .int .u8 25, .int .u8 14, .int .u8 19, .int .u8 9, .int .u8 13, .int .u8 8, .int .u8 7, .int .u8 6] t frozen | o => o).modify 0 fun | .cells _ t frozen => .cells #[.int .u64 1, .int .u64 10, .int .u64 100, .int .u64 1000, .int .u64 10000, .int .u64 100000, .int .u64 1000000, .int .u64 10000000, .int .u64 100000000, .int .u64 1000000000, .int .u64 10000000000, .int .u64 100000000000, .int .u64 1000000000000, .int .u64 10000000000000, .int .u64 100000000000000, .int .u64 1000000000000000, .int .u64 10000000000000000, .int .u64 100000000000000000, .int .u64 1000000000000000000, .int .u64 10000000000000000000] t frozen | o => o) }
theorem laid_met (os : Os) (args : Array Value) : laidMetH Tryd.prog Rows.fnExactShowRowRow.laid ((laidWorld os).forCall (fun _ _ => 0) ⟨#[], args, []⟩).memory :=
  (show laidMet Tryd.prog Rows.fnExactShowRowRow.laid _ from (LaidIn.of_run [2, 3, 0] 8 (by kernel_rfl) (by kernel_rfl) (by kernel_rfl) (by kernel_rfl)).met)
set_option maxRecDepth 100000 in
theorem lifted (os : Os) (started : os.Started) (H : Type) (enc : TypeId × Value → H) :
    ReturnsInHanded {} Tryd.checked os 4 .any (fun w args => (Rows.fnExactShowRowSpec.pre enc Tryd.prog Tryd.f4 Rows.fnExactShowRowRow.domain false w args ∧ laidMetH Tryd.prog Rows.fnExactShowRowRow.laid w) ∧ sizedMet enc Tryd.prog Tryd.f4 (OpenSpec.ofChange Rows.fnExactShowRowSpec) false w args) (Rows.fnExactShowRowSpec.post enc Tryd.prog Tryd.f4 false true false false) := by
  refine returnsInHanded_of_change_and (C := Tryd.checked) (X := fun w _ => laidMetH Tryd.prog Rows.fnExactShowRowRow.laid w) (fun _ _ _ hh h => h.of_heap hh) own started (by kernel_rfl) Tryd.func4
    (ChangeSpec.witness_at (enc := enc) (C := Tryd.checked) (os := os) (X := fun w _ => laidMetH Tryd.prog Rows.fnExactShowRowRow.laid w) false (laidWorld os) #[.slice none 0 0] 8 rfl (by kernel_rfl) (by kernel_rfl) (by kernel_rfl) (by kernel_rfl) (by kernel_rfl) (laid_met os _)) ?_
  intro W base args ds gs before hval0 hW hcnd _ hL _
  have htb := tab_laid hL
  have hval : ∀ (j : Nat) t v, Tryd.f4.params[j]? = some t → args[j]? = some v → Value.okWide Tryd.prog W .any base t v := hval0
  have hW' := hW
  obtain ⟨p, q, hA0, hV, rfl, hfz, hnd⟩ := hW
  have hA : DataW.TrodAll enc Tryd.prog W 0 (fun _ => true) true Tryd.f4.params.toList args.toList ds p := hA0
  rw [Tryd.params4] at hA hval
  obtain ⟨v0, vs0, e0, es0, p0, q0, hargs, rfl, rfl, h0, r0⟩ := trodAll_cons hA
  obtain ⟨rfl, rfl, rfl⟩ := trodAll_nil r0
  obtain rfl : args = #[v0] := by cases args; simp_all
  obtain ⟨rfl, rfl⟩ := trodVars_none hV
  have k0 := h0
  have lt0 : ∀ x ∈ p0, x.block < W.heap.size := by obtain ⟨m, hm⟩ := k0; exact DataW.trod_lt m _ _ _ hm
  obtain ⟨x0, len0, cap0, rfl⟩ := okWide_slice Tryd.underlying24 (hval 0 24 v0 rfl rfl)
  obtain ⟨l0, w0, b0⟩ : ∃ l, IntsI W (.slice x0 len0 cap0) l ∧ l.length ≤ 9223372036854775807 := by obtain ⟨fuel, hf⟩ := h0; exact cell_ints hf
  clear hA0 hval0
  refine (walk _ l0 W htb w0 b0).mono fun e W' ⟨he, bel⟩ => ?_
  subst he
  exact ⟨_, rfl, _, _, _, [], _, [], hW', trodAll_mk1 (shut_bool Tryd.underlying4 _), (trodAll_cons_mk (Below.trod laidOut (by kernel_rfl) (of_decide_eq_true (by kernel_rfl)) k0 bel lt0) trodAll_mk0), rfl, bel.frame _, fun h => by cases h⟩

theorem over : Rows.fnExactShowRowRow.holds Tryd.pinned (OpenSpec.ofChange Rows.fnExactShowRowSpec) :=
  OpenClaim.holds_of_wide 4 Tryd.f4 rfl rfl rfl rfl rfl rfl rfl ⟨rfl, rfl, rfl, rfl, rfl⟩ rfl rfl rfl rfl rfl (by kernel_rfl) Tryd.func4 (by kernel_rfl)
    (of_decide_eq_true (by kernel_rfl)) (by unfold Func.isWrapper; first | (rw [if_pos (by decide +kernel)]; kernel_rfl) | (rw [if_neg (by decide +kernel)]; exact ⟨rfl, rfl⟩))
    (fun os started H enc _ => lifted os started H enc)

/-- The tied card. -/
theorem proved : Rows.FnExactShowRowCardSaid :=
  Claim7.holds_tied_plain_at .later [] [.data, .data, .data] true (true, "cbd06bbc1b1304764073302f544b398fa226db8822f2ddfe07e40e85488dd877") false
    over (fun _ h => by cases h) (by kernel_rfl) (fun _ h => by cases h) fnExactShowRow_row_tie rfl ⟨rfl, rfl⟩ (by kernel_rfl) rfl
    (fun f fn hf hfn => by
      obtain rfl : f = 4 := Option.some.inj ((show Tryd.prog.funcNamed "loop.example/g00182/laws.FnExactShowRow" = some 4 by kernel_rfl).symm.trans hf) |>.symm
      obtain rfl : fn = Tryd.f4 := (Option.some.inj (Tryd.func4.symm.trans hfn)).symm
      exact ⟨by kernel_rfl, fun j t ht => by
        rw [Tryd.params4] at ht
        have hm : t ∈ [24] := List.mem_of_getElem? (by simpa using ht)
        simp only [List.mem_cons, List.not_mem_nil, or_false] at hm
        have hz : ∀ x ∈ [24], Tryd.prog.wantsStandIn x = false := by
          intro x hx
          simp only [List.mem_cons, List.not_mem_nil, or_false] at hx
          first
            | (subst hx; kernel_rfl)
            | (rcases hx with rfl | rfl <;> kernel_rfl)
            | (rcases hx with rfl | rfl | rfl <;> kernel_rfl)
        exact hz t (by simpa using hm)⟩)
    (by kernel_rfl)
end Go.Proofs.YtdcemlghnoecnaaDoor.fnExactShowRow
namespace Go.Proofs.YtdcemlghnoecnaaDoor
theorem fnExactShowRow_holds : Rows.FnExactShowRowCardSaid := fnExactShowRow.proved
#print axioms fnExactShowRow_holds
end Go.Proofs.YtdcemlghnoecnaaDoor
