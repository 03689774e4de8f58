/-
  Proved: whatever code it is given, the law FnGraded returns true (graded and picked a drawn vector ascends, and has the same numbers; alike ones stand in their order). No condition.
-/
import Derived.Test.YthjjjnapcbkhjaaRows
import Derived.WalkKit
import Derived.ProofKit
import Derived.OpenShut
import Derived.ShutString
import Derived.ChangeOld
import Derived.Below
import Derived.Test.YthjjjnapcbkhjaaZ1
import Derived.Test.YthjjjnapcbkhjaaDrawGrade
import Derived.Test.YthjjjnapcbkhjaaDrawTwoA
import Derived.Test.YthjjjnapcbkhjaaZ2
import Derived.Test.YthjjjnapcbkhjaaLaw3
namespace Go.Proofs.Ythjjjnapcbkhjaa.fnGraded
open Go.ChangeShapes Go.WideShapes Go.ChangeAt Go.RowKit
open Go.ChangeMaps (open_string shut_string)
set_option linter.unusedVariables false
set_option linter.unusedSimpArgs false
set_option linter.unusedVariables false

theorem own : ownKnob Try.prog.godebug = none := by kernel_rfl
theorem laidOut : laidOutB Try.prog = true := by kernel_rfl

/-! ### STEP 1: THE WALK: the Go text returns true, AND WRITES NOTHING THAT WAS THERE: 'Below w.heap.size w w'' (Derived/Below.lean: '.refl', '.alloc', '.drew', '.setCell' at a new block, '.trans'). Open each 'IsRow' by 'rcases' AHEAD of 'go_enter'; part every test ahead of the walk. -/
set_option maxRecDepth 20000 in
set_option maxHeartbeats 8000000 in
theorem walk (a0 : Option Addr) (len0 cap0 : Nat) (z0 : List Int) (w : World) (w0 : IsRow .u8 w a0 len0 cap0 z0) :
    Calls Try.prog 4 #[.slice a0 len0 cap0] w fun e w' => e = .returned (.bool true) ∧ Below w.heap.size w w' := by
  have HS : Hid (Src w.heap.size w a0 len0) := src_of_row w0
  clear w0
  by_cases hbig : (1048576 : Int) < (len0 : Int)
  · go_enter Try.func4, Try.ntmps4
    go_wp2_with (go_at_call 9; refine (big_laws _ _ _ _).mono ?_; rintro e w' ⟨rfl, hw⟩; subst w')
    go_ret
    exact ⟨rfl, Below.refl _ _⟩
  have hb20 : len0 ≤ 1048576 := by omega
  go_enter Try.func4, Try.ntmps4
  go_wp2_with (go_at_call 9; refine (big_laws _ _ _ _).mono ?_; rintro e w' ⟨rfl, hw⟩; subst w')
  refine (drawGrade_spec HS.out hb20).mono ?_
  rintro r w1 ⟨v1, s, d, rfl, ha, hls, hld, hb⟩
  obtain ⟨a1, c1, b1, e1, rfl, _, _, _, _⟩ := ha.arrI
  have N_1 : Hid (Arr w.heap.size w1.heap.size w1 (.agg #[.slice a1 s.length c1, .slice b1 d.length e1]) s d) := ha
  have Ls : Hid (s.length ≤ 1048576) := by show _ ≤ _; omega
  have Ld : Hid (d.length ≤ 1048576) := by show _ ≤ _; omega
  have HT1 : Hid (Below w.heap.size w w1) := hb
  have SZ1 : Hid (w.heap.size ≤ w1.heap.size) := hb.size
  clear hb ha hls hld
  obtain ⟨C, hC⟩ : ∃ y, y = (gradeR s d).1 := ⟨_, rfl⟩
  obtain ⟨S, hS⟩ : ∃ y, y = (gradeR s d).2.1 := ⟨_, rfl⟩
  obtain ⟨D, hD⟩ : ∃ y, y = (gradeR s d).2.2 := ⟨_, rfl⟩
  have EI : Hid (∀ (W : World) (u0 : Value) (_ : ArrI W u0 s d), Calls Try.prog 13 #[u0] W fun e w' => ∃ v, e = .returned (.tuple #[v, .int .i64 C]) ∧ Arr W.heap.size w'.heap.size w' v S D ∧ Below W.heap.size W w') := by
    intro W u0 h0
    rw [hC, hS, hD]
    exact grade_impl sorts_ints h0 Ls.out Ld.out
  have ES : Hid (∀ (W : World) (u0 : Value) (_ : ArrI W u0 s d), Calls Try.prog 16 #[u0] W fun e w' => ∃ v, e = .returned (.tuple #[v, .int .i64 C]) ∧ Arr W.heap.size w'.heap.size w' v S D ∧ Below W.heap.size W w') := by
    intro W u0 h0
    rw [hC, hS, hD]
    exact grade_spec h0 Ls.out Ld.out
  have FG : Hid (C = 0 → arrOk s d = true ∧ S = [(d.length : Int)] ∧ D = natI (gradeTo d d.length) ∧ ∃ SP P, pickR [(d.length : Int)] (natI (gradeTo d d.length)) s d = (0, SP, P) ∧ SP.length = 1 ∧ P.length = d.length ∧ ∀ i, i < d.length → P.getD i 0 = d.getD ((gradeTo d d.length).getD i 0) 0) := by
    intro h
    rw [hC] at h
    rw [hS, hD]
    exact graded_good h
  have FB : Hid (C ≠ 0 → D.length = 0) := by
    intro h
    rw [hC] at h
    rw [hD, grade_bad h]
    rfl
  have hneC : (C != C) = false := by simp
  clear hC hS hD
  go_wp2_with fail
  refine (EI.out _ _ ((N_1.out.arrI).keep (bAlloc (Below.refl _ _) _))).mono ?_
  rintro r w2 ⟨vG, rfl, ha, hb⟩
  obtain ⟨aG, cG, bG, eG, rfl, _, _, _, _⟩ := ha.arrI
  have G_2 : Hid (Arr (w1.heap.size + 1) w2.heap.size w2 (.agg #[.slice aG S.length cG, .slice bG D.length eG]) S D) := ha.mono (by first | exact Nat.le_refl _ | simp | (simp; omega)) (Nat.le_refl _)
  clear ha
  have HB2 : Hid (Below w1.heap.size w1 w2) := bTrans (bAlloc (Below.refl _ _) _) hb
  have HT2 : Hid (Below w.heap.size w w2) := bTrans HT1.out HB2.out
  have SZ2 : Hid (w1.heap.size ≤ w2.heap.size) := HB2.out.size
  have N_2 : Hid (Arr w.heap.size w1.heap.size w2 (.agg #[.slice a1 s.length c1, .slice b1 d.length e1]) s d) := N_1.out.keep HB2.out
  have QN_2 : Hid (Box w2 w1.heap.size (.slice a1 s.length c1) (.slice b1 d.length e1) 26) := (box_new w1 _ _ _).keep hb
  have LTQN : Hid (w1.heap.size < w2.heap.size) := QN_2.out.lt
  clear N_1 hb
  have QNc0 := QN_2.out.c0
  have QNc1 := QN_2.out.c1
  have QNd0 : ∀ o : Obj, (w2.alloc o).cell? ⟨w1.heap.size, 0, none⟩ = some (.slice a1 s.length c1) := fun o => (QN_2.out.keep (bAlloc (Below.refl _ _) o)).c0
  have QNd1 : ∀ o : Obj, (w2.alloc o).cell? ⟨w1.heap.size, 1, none⟩ = some (.slice b1 d.length e1) := fun o => (QN_2.out.keep (bAlloc (Below.refl _ _) o)).c1
  go_wp2_with fail
  refine (ES.out _ _ ((N_2.out.arrI).keep (bAlloc (Below.refl _ _) _))).mono ?_
  rintro r w3 ⟨vW, rfl, ha, hb⟩
  obtain ⟨aW, cW, bW, eW, rfl, _, _, _, _⟩ := ha.arrI
  have W_3 : Hid (Arr (w2.heap.size + 1) w3.heap.size w3 (.agg #[.slice aW S.length cW, .slice bW D.length eW]) S D) := ha.mono (by first | exact Nat.le_refl _ | simp | (simp; omega)) (Nat.le_refl _)
  clear ha
  have HB3 : Hid (Below w2.heap.size w2 w3) := bTrans (bAlloc (Below.refl _ _) _) hb
  have HT3 : Hid (Below w.heap.size w w3) := bTrans HT2.out HB3.out
  have SZ3 : Hid (w2.heap.size ≤ w3.heap.size) := HB3.out.size
  have QN_3 : Hid (Box w3 w1.heap.size (.slice a1 s.length c1) (.slice b1 d.length e1) 26) := QN_2.out.keep HB3.out
  have N_3 : Hid (Arr w.heap.size w1.heap.size w3 (.agg #[.slice a1 s.length c1, .slice b1 d.length e1]) s d) := N_2.out.keep HB3.out
  have G_3 : Hid (Arr (w1.heap.size + 1) w2.heap.size w3 (.agg #[.slice aG S.length cG, .slice bG D.length eG]) S D) := G_2.out.keep HB3.out
  have QG_3 : Hid (Box w3 w2.heap.size (.slice aG S.length cG) (.slice bG D.length eG) 26) := (box_new w2 _ _ _).keep hb
  have LTQG : Hid (w2.heap.size < w3.heap.size) := QG_3.out.lt
  clear QN_2 N_2 G_2 QNc0 QNc1 QNd0 QNd1 hb
  have QNc0 := QN_3.out.c0
  have QNc1 := QN_3.out.c1
  have QNd0 : ∀ o : Obj, (w3.alloc o).cell? ⟨w1.heap.size, 0, none⟩ = some (.slice a1 s.length c1) := fun o => (QN_3.out.keep (bAlloc (Below.refl _ _) o)).c0
  have QNd1 : ∀ o : Obj, (w3.alloc o).cell? ⟨w1.heap.size, 1, none⟩ = some (.slice b1 d.length e1) := fun o => (QN_3.out.keep (bAlloc (Below.refl _ _) o)).c1
  have QGc0 := QG_3.out.c0
  have QGc1 := QG_3.out.c1
  have QGd0 : ∀ o : Obj, (w3.alloc o).cell? ⟨w2.heap.size, 0, none⟩ = some (.slice aG S.length cG) := fun o => (QG_3.out.keep (bAlloc (Below.refl _ _) o)).c0
  have QGd1 : ∀ o : Obj, (w3.alloc o).cell? ⟨w2.heap.size, 1, none⟩ = some (.slice bG D.length eG) := fun o => (QG_3.out.keep (bAlloc (Below.refl _ _) o)).c1
  by_cases hc : C = 0
  · obtain ⟨ho, hSn, hDn, SP, P, hpk, hsp, hpl, hpa⟩ := FG.out hc
    subst hc
    have L3 : Hid (d.length ≤ 300) := arrOk_len ho
    obtain ⟨L, hL⟩ : ∃ L, L = gradeTo d d.length := ⟨_, rfl⟩
    have LL : Hid (L.length = d.length) := by show _ = _; rw [hL, gradeTo_len]
    have LB : Hid (∀ i, i < d.length → L.getD i 0 < d.length) := fun i hi => by rw [hL]; exact gradeTo_lt hi
    have LN : Hid L.Nodup := by rw [hL]; exact nodup_ahead (gradeTo_is d d.length).1
    have LA : Hid (∀ m, m + 1 < d.length → ahead d (L.getD m 0) (L.getD (m + 1) 0)) := fun m hm => by rw [hL]; exact ahead_next hm
    have DL : Hid (D.length = d.length) := by show _ = _; rw [hDn, natI_len, gradeTo_len]
    have DA : Hid (∀ i, i < d.length → D.getD i 0 = ((L.getD i 0 : Nat) : Int)) := fun i hi => by rw [hDn, hL]; exact natI_at (by rw [gradeTo_len]; exact hi)
    have PL : Hid (P.length = d.length) := hpl
    have PA : Hid (∀ i, i < d.length → P.getD i 0 = d.getD (L.getD i 0) 0) := by rw [hL]; exact hpa
    have LS1 : Hid (S.length ≤ 1048576) := by show _ ≤ _; rw [hSn]; simp
    have LD1 : Hid (D.length ≤ 1048576) := by have := DL.out; have := L3.out; show _ ≤ _; omega
    have EP : Hid (∀ (W : World) (u : Value) (_ : ArrI W u S D) (v : Value) (_ : ArrI W v s d), Calls Try.prog 17 #[u, v] W fun e w' => ∃ v', e = .returned (.tuple #[v', .int .i64 0]) ∧ Arr W.heap.size w'.heap.size w' v' SP P ∧ Below W.heap.size W w') := fun W u hu v hv => by
      have q := pick_impl hu hv LS1.out LD1.out Ls.out Ld.out
      rw [hSn, hDn, hpk] at q
      exact q
    clear ho hSn hDn hpk hsp hpl hpa hL FG FB
    go_wp2_with fail
    refine (EP.out _ _ ((G_3.out.arrI).keep (bAlloc (Below.refl _ _) _)) _ ((N_3.out.arrI).keep (bAlloc (Below.refl _ _) _))).mono ?_
    rintro r w4 ⟨vP, rfl, ha, hb⟩
    obtain ⟨aP, cP, bP, eP, rfl, _, _, _, _⟩ := ha.arrI
    have P_4 : Hid (Arr (w3.heap.size + 1) w4.heap.size w4 (.agg #[.slice aP SP.length cP, .slice bP P.length eP]) SP P) := ha.mono (by first | exact Nat.le_refl _ | simp | (simp; omega)) (Nat.le_refl _)
    clear ha
    have HB4 : Hid (Below w3.heap.size w3 w4) := bTrans (bAlloc (Below.refl _ _) _) hb
    have HT4 : Hid (Below w.heap.size w w4) := bTrans HT3.out HB4.out
    have SZ4 : Hid (w3.heap.size ≤ w4.heap.size) := HB4.out.size
    have QN_4 : Hid (Box w4 w1.heap.size (.slice a1 s.length c1) (.slice b1 d.length e1) 26) := QN_3.out.keep HB4.out
    have QG_4 : Hid (Box w4 w2.heap.size (.slice aG S.length cG) (.slice bG D.length eG) 26) := QG_3.out.keep HB4.out
    have N_4 : Hid (Arr w.heap.size w1.heap.size w4 (.agg #[.slice a1 s.length c1, .slice b1 d.length e1]) s d) := N_3.out.keep HB4.out
    have G_4 : Hid (Arr (w1.heap.size + 1) w2.heap.size w4 (.agg #[.slice aG S.length cG, .slice bG D.length eG]) S D) := G_3.out.keep HB4.out
    have QW_4 : Hid (Box w4 w3.heap.size (.slice aW S.length cW) (.slice bW D.length eW) 26) := (box_new w3 _ _ _).keep hb
    have LTQW : Hid (w3.heap.size < w4.heap.size) := QW_4.out.lt
    clear QN_3 QG_3 N_3 G_3 QNc0 QNc1 QNd0 QNd1 QGc0 QGc1 QGd0 QGd1 hb
    have QNc0 := QN_4.out.c0
    have QNc1 := QN_4.out.c1
    have QNd0 : ∀ o : Obj, (w4.alloc o).cell? ⟨w1.heap.size, 0, none⟩ = some (.slice a1 s.length c1) := fun o => (QN_4.out.keep (bAlloc (Below.refl _ _) o)).c0
    have QNd1 : ∀ o : Obj, (w4.alloc o).cell? ⟨w1.heap.size, 1, none⟩ = some (.slice b1 d.length e1) := fun o => (QN_4.out.keep (bAlloc (Below.refl _ _) o)).c1
    have QGc0 := QG_4.out.c0
    have QGc1 := QG_4.out.c1
    have QGd0 : ∀ o : Obj, (w4.alloc o).cell? ⟨w2.heap.size, 0, none⟩ = some (.slice aG S.length cG) := fun o => (QG_4.out.keep (bAlloc (Below.refl _ _) o)).c0
    have QGd1 : ∀ o : Obj, (w4.alloc o).cell? ⟨w2.heap.size, 1, none⟩ = some (.slice bG D.length eG) := fun o => (QG_4.out.keep (bAlloc (Below.refl _ _) o)).c1
    have QWc0 := QW_4.out.c0
    have QWc1 := QW_4.out.c1
    have QWd0 : ∀ o : Obj, (w4.alloc o).cell? ⟨w3.heap.size, 0, none⟩ = some (.slice aW S.length cW) := fun o => (QW_4.out.keep (bAlloc (Below.refl _ _) o)).c0
    have QWd1 : ∀ o : Obj, (w4.alloc o).cell? ⟨w3.heap.size, 1, none⟩ = some (.slice bW D.length eW) := fun o => (QW_4.out.keep (bAlloc (Below.refl _ _) o)).c1
    have hmk : ∀ w, (Instr.makeSlice 32 (.int .i64 (d.length : Int)) (.int .i64 (d.length : Int))).run Try.prog w = .ok (.slice (some ⟨w.heap.size, 0, none⟩) d.length d.length) (w.alloc (.cells (bvals (List.replicate d.length false)) 4)) := fun w => make_bools d.length (by have := L3.out; omega) w
    go_wp2_with fail
    clear hmk
    generalize hW0 : w4.alloc (.cells #[.slice aP SP.length cP, .slice bP P.length eP] 26) = W0 at *
    have B0 : Hid (Below w4.heap.size w4 W0) := by rw [← hW0]; exact bAlloc (Below.refl _ _) _
    have QP0 : Hid (Box W0 w4.heap.size (.slice aP SP.length cP) (.slice bP P.length eP) 26) := by rw [← hW0]; exact box_new w4 _ _ _
    have SW0 : Hid (W0.heap.size = w4.heap.size + 1) := by show _ = _; rw [← hW0]; simp
    have hsw0 : w4.heap.size + 1 = W0.heap.size := SW0.out.symm
    rw [hsw0]
    clear hW0
    generalize hWL : W0.alloc (.cells (bvals (List.replicate d.length false)) 4) = WL
    have OB0 : Hid (OwnBools WL W0.heap.size (seenB L d.length 0)) := by rw [← hWL, seenB_zero]; exact heap_alloc_new W0 _
    have BW : Hid (Below W0.heap.size W0 WL) := by rw [← hWL]; exact bAlloc (Below.refl _ _) _
    have BL : Hid (Below w4.heap.size w4 WL) := bTrans B0.out BW.out
    have QPL : Hid (Box WL w4.heap.size (.slice aP SP.length cP) (.slice bP P.length eP) 26) := QP0.out.keep BW.out
    have QNL : Hid (Box WL w1.heap.size (.slice a1 s.length c1) (.slice b1 d.length e1) 26) := QN_4.out.keep BL.out
    have QGL : Hid (Box WL w2.heap.size (.slice aG S.length cG) (.slice bG D.length eG) 26) := QG_4.out.keep BL.out
    have NL : Hid (Arr w.heap.size w1.heap.size WL (.agg #[.slice a1 s.length c1, .slice b1 d.length e1]) s d) := N_4.out.keep BL.out
    have GL : Hid (Arr ((w1.heap.size + 1)) w2.heap.size WL (.agg #[.slice aG S.length cG, .slice bG D.length eG]) S D) := G_4.out.keep BL.out
    have PLL : Hid (Arr ((w3.heap.size + 1)) w4.heap.size WL (.agg #[.slice aP SP.length cP, .slice bP P.length eP]) SP P) := P_4.out.keep BL.out
    have SZ : Hid (w.heap.size ≤ w4.heap.size ∧ w1.heap.size ≤ w4.heap.size ∧ w1.heap.size < w4.heap.size ∧ w2.heap.size < w4.heap.size ∧ w2.heap.size ≤ w4.heap.size) := by
      have z1 := QN_4.out.lt
      have z2 := QG_4.out.lt
      have z3 := HT4.out.size
      exact ⟨z3, by omega, z1, z2, by omega⟩
    have HTL : Hid (Below w.heap.size w w4) := HT4.out
    have SK : Hid (w4.heap.size < W0.heap.size) := by have := SW0.out; show _ < _; omega
    clear hWL hsw0 QNc0 QNc1 QNd0 QNd1 QGc0 QGc1 QGd0 QGd1 QWc0 QWc1 QWd0 QWd1
    go_loopw [11] (fun i w' => ∃ k : Nat, k ≤ d.length ∧ i = .int .i64 (k : Int) ∧ OwnBools w' W0.heap.size (seenB L d.length k) ∧ But W0.heap.size WL w') (fun i _ => d.length - (intOf i).toNat)
    case atStart => exact ⟨0, by omega, rfl, OB0.out, But.refl _ _⟩
    case round =>
      obtain ⟨k, hk, rfl, hO, hB⟩ := hrel
      have HO : Hid (OwnBools wr W0.heap.size (seenB L d.length k)) := hO
      have HC : Hid (But W0.heap.size WL wr) := hB
      have SK1 := SK.out
      have SZ1 := SZ.out
      have QA : Hid (Box wr w1.heap.size (.slice a1 s.length c1) (.slice b1 d.length e1) 26) := boxBut QNL.out hB (by omega)
      have QG : Hid (Box wr w2.heap.size (.slice aG S.length cG) (.slice bG D.length eG) 26) := boxBut QGL.out hB (by omega)
      have QP : Hid (Box wr w4.heap.size (.slice aP SP.length cP) (.slice bP P.length eP) 26) := boxBut QPL.out hB (by omega)
      have NA : Hid (Arr w.heap.size w1.heap.size wr (.agg #[.slice a1 s.length c1, .slice b1 d.length e1]) s d) := NL.out.but hB (.inr (by omega))
      have NG : Hid (Arr ((w1.heap.size + 1)) w2.heap.size wr (.agg #[.slice aG S.length cG, .slice bG D.length eG]) S D) := GL.out.but hB (.inr (by omega))
      have NP : Hid (Arr ((w3.heap.size + 1)) w4.heap.size wr (.agg #[.slice aP SP.length cP, .slice bP P.length eP]) SP P) := PLL.out.but hB (.inr (by omega))
      have q1 := QA.out.c1
      have q3 := QG.out.c1
      have q5 := QP.out.c1
      have hkb : k ≤ 300 := by have := L3.out; omega
      clear hO hB SZ1 SK1
      by_cases hlt : (k : Int) < (D.length : Int)
      · have Lk : k < d.length := by have := DL.out; omega
        have hltP : (k : Int) < (P.length : Int) := by have := PL.out; omega
        obtain ⟨_, _, _, _, ev, _, i1, _, _⟩ := NA.out.arrI
        cases ev
        obtain ⟨_, _, _, _, ev, _, i2, _, _⟩ := NG.out.arrI
        cases ev
        obtain ⟨_, _, _, _, ev, _, i3, _, _⟩ := NP.out.arrI
        cases ev
        obtain ⟨x, hx⟩ : ∃ x : Nat, x = L.getD k 0 := ⟨_, rfl⟩
        have hxd : x < d.length := by rw [hx]; exact LB.out k Lk
        have hxi : (x : Int) < (d.length : Int) := by omega
        obtain ⟨p1, o1, rfl, hp1, t1⟩ := i1.at hxd
        obtain ⟨p2, o2, rfl, hp2, t2⟩ := i2.at (k := k) (by omega)
        obtain ⟨p3, o3, rfl, hp3, t3⟩ := i3.at (k := k) (by omega)
        rw [DA.out k Lk, ← hx] at t2
        rw [PA.out k Lk, ← hx] at t3
        have t4 : wr.cell? ⟨W0.heap.size, x, none⟩ = some (.bool false) := HO.out.cell (by rw [hx]; exact seenB_not LN.out (by rw [LL.out]; exact Lk) (LB.out k Lk))
        have fz : wr.frozen? ⟨W0.heap.size, x, none⟩ = false := HO.out.free x
        have HS1 : Hid ((seenB L d.length k).set x true = seenB L d.length (k + 1)) := by show _ = _; rw [hx]; exact seenB_set (by rw [LL.out]; exact Lk)
        have HX : Hid (x = L.getD k 0) := hx
        have d0 : decide ((x : Int) < 0) = false := by simp
        have d1 : decide ((d.length : Int) ≤ (x : Int)) = false := by simp; omega
        have d2 : decide (d.length ≤ x) = false := by simp; omega
        have U3 : Hid (P.getD k 0 = d.getD x 0) := by show _ = _; rw [PA.out k Lk, ← hx]
        generalize hu : d.getD x 0 = u at *
        have HDX : Hid (d.getD x 0 = u) := hu
        have huu : (u != u) = false := by simp
        clear hx hp1 hp2 hp3 i1 i2 i3 hu
        go_wp2_with fail
        go_quiet (fail)
        go_wp2_with fail
        generalize hW3 : (wr.drewN nq).setCell ⟨W0.heap.size, x, none⟩ (.bool true) = W3
        have O3 : Hid (OwnBools W3 W0.heap.size (seenB L d.length (k + 1))) := by
          rw [← hW3, ← HS1.out]
          exact OwnBools.set (w := wr.drewN nq) HO.out x true
        have C3 : Hid (But W0.heap.size wr W3) := by rw [← hW3]; exact ((But.refl _ wr).drewN nq).setCell _ _
        have CC : Hid (But W0.heap.size WL W3) := HC.out.trans C3.out
        clear hW3 t4 fz q1 q3 q5 t1 t2 t3
        have SK2 := SK.out
        have SZ2 := SZ.out
        have q1 := (boxBut QA.out C3.out (by omega)).c1
        have q3 := (boxBut QG.out C3.out (by omega)).c1
        have q5 := (boxBut QP.out C3.out (by omega)).c1
        obtain ⟨_, _, _, _, ev, _, i2, _, _⟩ := (NG.out.but C3.out (.inr (by omega))).arrI
        cases ev
        obtain ⟨_, _, _, _, ev, _, i3, _, _⟩ := (NP.out.but C3.out (.inr (by omega))).arrI
        cases ev
        clear SK2 SZ2
        cases k with
        | zero =>
          have e0 : decide ((0 : Int) < ((0 : Nat) : Int)) = false := by simp
          clear i2 i3
          go_quiet (fail)
          go_wp2
          go_roundw
          case rel => exact ⟨1, by omega, by go_num, O3.out, CC.out.drewN _⟩
          case measure => simp [intOf]; omega
        | succ m =>
          have Lm : m < d.length := by omega
          obtain ⟨y, hy⟩ : ∃ y : Nat, y = L.getD m 0 := ⟨_, rfl⟩
          have hah := LA.out m Lk
          rw [← hy, ← HX.out] at hah
          obtain ⟨_, _, e2', hp2, t2⟩ := i2.at (k := m) (by have := DL.out; omega)
          cases e2'
          obtain ⟨_, _, e3', hp3, t3⟩ := i3.at (k := m) (by have := PL.out; omega)
          cases e3'
          obtain ⟨_, _, e4', hp4, t4⟩ := i3.at (k := m + 1) (by have := PL.out; omega)
          cases e4'
          rw [DA.out m Lm, ← hy] at t2
          rw [PA.out m Lm, ← hy] at t3
          rw [U3.out] at t4
          unfold ahead at hah
          rw [HDX.out] at hah
          generalize d.getD y 0 = z at *
          have e0 : decide ((0 : Int) < ((m + 1 : Nat) : Int)) = true := by simp
          have e1 : (0 : Int) < (m : Int) + 1 := by omega
          have m1 : (m : Int) < (D.length : Int) := by have := DL.out; omega
          have m2 : (m : Int) < (P.length : Int) := by have := PL.out; omega
          have m3 : (m : Int) + 1 < (P.length : Int) := by have := PL.out; omega
          have m0 : ((m + 1 : Nat) : Int) - 1 = (m : Int) := by omega
          have g1 : decide (u < z) = false := by simp; omega
          clear hy i2 i3 hp2 hp3 hp4
          rcases hah with hah | ⟨hah, hyx⟩
          · have g2 : (z == u) = false := by simp; omega
            clear hah
            go_quiet (fail)
            go_wp2
            go_roundw
            case rel => exact ⟨m + 1 + 1, by omega, by go_num, O3.out, CC.out.drewN _⟩
            case measure => simp [intOf]; omega
          · subst hah
            have g2 : (z == z) = true := by simp
            have g3 : decide ((x : Int) < (y : Int)) = false := by simp; omega
            have g4 : decide (x < y) = false := by simp; omega
            clear hyx
            go_quiet (fail)
            go_wp2
            go_roundw
            case rel => exact ⟨m + 1 + 1, by omega, by go_num, O3.out, CC.out.drewN _⟩
            case measure => simp [intOf]; omega
      · have hPd : ((P.length : Int) == (d.length : Int)) = true := by have := PL.out; simp; omega
        have BE : Hid (Below w.heap.size w wr) := by
          have z0 := SZ.out
          have z1 := SK.out
          have z2 := BL.out.size
          exact bTrans HTL.out (BL.out.trans (HC.out.below (by omega) (by omega)))
        go_wp2
        go_ret
        exact ⟨rfl, BE.out⟩
  · have n0 : (C != 0) = true := by simpa using hc
    have hl : ((D.length : Int) == 0) = true := by rw [FB.out hc]; rfl
    have hl2 : D.length = 0 := FB.out hc
    clear FG FB
    go_wp2
    go_ret
    exact ⟨rfl, bTrans HT3.out (bAlloc (Below.refl _ _) _)⟩

/-! ### THE ROW's STEP: WRITTEN OUT: LEAVE IT -/
set_option maxRecDepth 100000 in
theorem lifted (os : Os) (started : os.Started) (H : Type) (enc : TypeId × Value → H) :
    ReturnsInHanded {} Try.checked os 4 .any (Rows.fnGradedSpec.pre6 enc Try.prog Try.f4 Rows.fnGradedRow.domain false) (Rows.fnGradedSpec.post enc Try.prog Try.f4 false true false false) := by
  refine returnsInHanded_of_change (C := Try.checked) own started (by kernel_rfl) Try.func4
    (ChangeSpec.witness6 (enc := enc) (C := Try.checked) false ⟨#[], #[.slice none 0 0], []⟩ 8 (by kernel_rfl) (by kernel_rfl) (by kernel_rfl) (by kernel_rfl)) ?_
  intro W base args ds gs before hval0 hW hcnd _
  have hval : ∀ (j : Nat) t v, Try.f4.params[j]? = some t → args[j]? = some v → Value.okWide Try.prog W .any base t v := hval0
  have hW' := hW
  obtain ⟨p, q, hA0, hV, rfl, hfz, hnd⟩ := hW
  have hA : DataW.TrodAll enc Try.prog W 0 (fun _ => true) true Try.f4.params.toList args.toList ds p := hA0
  rw [Try.params4] at hA hval
  obtain ⟨v0, vs0, d0, ds0, p0, q0, hargs, rfl, rfl, h0, r0⟩ := trodAll_cons hA
  obtain ⟨rfl, rfl, rfl⟩ := trodAll_nil r0
  obtain rfl : args = #[v0] := by cases args; simp_all
  obtain ⟨rfl, rfl⟩ := trodVars_none hV
  obtain ⟨a0, len0, cap0, rfl⟩ := okWide_slice Try.underlying22 (hval 0 22 v0 rfl rfl)
  have k0 := h0
  have lt0 : ∀ x ∈ p0, x.block < W.heap.size := by obtain ⟨m, hm⟩ := k0; exact DataW.trod_lt m _ _ _ hm
  obtain ⟨z0, w0⟩ : ∃ zs, IsRow .u8 W a0 len0 cap0 zs := by
    obtain ⟨fuel, hf⟩ := h0
    rcases open_ints Try.underlying22 Try.underlying5 (by kernel_rfl) hf with ⟨hcs, _⟩ | ⟨x, l, c, zs, hcs, _, hl, hm, hz, _, hcell, hwz⟩
    · simp [Value.cells] at hcs
      obtain ⟨rfl, rfl, rfl⟩ := hcs
      exact ⟨[], .inl ⟨rfl, rfl, rfl, rfl⟩⟩
    · simp [Value.cells] at hcs
      obtain ⟨rfl, rfl, rfl⟩ := hcs
      exact ⟨zs, .inr ⟨_, rfl, hl, hm, by simpa using hz, hcell, hwz⟩⟩
  clear hA0 hval0
  refine (walk a0 len0 cap0 z0 W w0).mono fun e W' ⟨he, bel⟩ => ?_
  subst he
  exact ⟨_, rfl, _, _, _, [], _, [], hW', trodAll_mk1 (shut_bool Try.underlying4 _), (trodAll_cons_mk (Below.trod laidOut (by kernel_rfl) (of_decide_eq_true (by kernel_rfl)) k0 bel lt0) trodAll_mk0), rfl, bel.frame _, fun h => by cases h⟩

theorem over : Rows.fnGradedRow.holds Try.pinned (OpenSpec.ofChange Rows.fnGradedSpec) :=
  OpenClaim.holds_of_wide 4 Try.f4 rfl rfl rfl rfl rfl rfl rfl ⟨rfl, rfl, rfl, rfl, rfl⟩ rfl rfl rfl rfl rfl (by kernel_rfl) Try.func4 (by kernel_rfl)
    (of_decide_eq_true (by kernel_rfl)) (by unfold Func.isWrapper; first | (rw [if_pos (by decide +kernel)]; kernel_rfl) | (rw [if_neg (by decide +kernel)]; exact ⟨rfl, rfl⟩))
    (fun os started H enc _ => lifted os started H enc)

/-- ████ THE STATEMENT ████ -/
theorem proved : Rows.FnGradedSaid := over
end Go.Proofs.Ythjjjnapcbkhjaa.fnGraded
namespace Go.Proofs.Ythjjjnapcbkhjaa
theorem fnGraded_holds : Rows.FnGradedSaid := fnGraded.proved
#print axioms fnGraded_holds
end Go.Proofs.Ythjjjnapcbkhjaa
