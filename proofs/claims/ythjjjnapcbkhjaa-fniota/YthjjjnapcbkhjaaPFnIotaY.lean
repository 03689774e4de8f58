/-
  Proved: whatever code it is given, the law FnIota returns true (the numbers up to a drawn one ascend by one from nought; graded they are themselves). No condition.
-/
import Derived.Test.YthjjjnapcbkhjaaRows
import Derived.WalkKit
import Derived.ProofKit
import Derived.OpenShut
import Derived.ShutString
import Derived.ChangeOld
import Derived.Below
import Derived.Test.YthjjjnapcbkhjaaZ1
import Derived.Test.YthjjjnapcbkhjaaDrawIota
import Derived.Test.YthjjjnapcbkhjaaSpecMake2
import Derived.Test.YthjjjnapcbkhjaaLaw3
namespace Go.Proofs.Ythjjjnapcbkhjaa.fnIota
open Go.ChangeShapes Go.WideShapes Go.ChangeAt Go.RowKit
open Go.ChangeMaps (open_string shut_string)
set_option linter.unusedVariables false
set_option linter.unusedSimpArgs false
set_option linter.unusedVariables false

theorem own : ownKnob Try.prog.godebug = none := by kernel_rfl
theorem laidOut : laidOutB Try.prog = true := by kernel_rfl

/-! ### STEP 1: THE WALK: the Go text returns true, AND WRITES NOTHING THAT WAS THERE: 'Below w.heap.size w w'' (Derived/Below.lean: '.refl', '.alloc', '.drew', '.setCell' at a new block, '.trans'). Open each 'IsRow' by 'rcases' AHEAD of 'go_enter'; part every test ahead of the walk. -/
set_option maxRecDepth 20000 in
set_option maxHeartbeats 8000000 in
theorem walk (a0 : Option Addr) (len0 cap0 : Nat) (z0 : List Int) (w : World) (w0 : IsRow .u8 w a0 len0 cap0 z0) :
    Calls Try.prog 3 #[.slice a0 len0 cap0] w fun e w' => e = .returned (.bool true) ∧ Below w.heap.size w w' := by
  have HS : Hid (Src w.heap.size w a0 len0) := src_of_row w0
  clear w0
  by_cases hbig : (1048576 : Int) < (len0 : Int)
  · go_enter Try.func3, Try.ntmps3
    go_wp2_with (go_at_call 9; refine (big_laws _ _ _ _).mono ?_; rintro e w' ⟨rfl, hw⟩; subst w')
    go_ret
    exact ⟨rfl, Below.refl _ _⟩
  have hb20 : len0 ≤ 1048576 := by omega
  go_enter Try.func3, Try.ntmps3
  go_wp2_with (go_at_call 9; refine (big_laws _ _ _ _).mono ?_; rintro e w' ⟨rfl, hw⟩; subst w')
  refine (drawIota_spec HS.out hb20).mono ?_
  rintro r w1 ⟨v1, s, d, rfl, ha, hls, hld, hb⟩
  obtain ⟨a1, c1, b1, e1, rfl, _, _, _, _⟩ := ha.arrI
  have N_1 : Hid (Arr w.heap.size w1.heap.size w1 (.agg #[.slice a1 s.length c1, .slice b1 d.length e1]) s d) := ha
  have Ls : Hid (s.length ≤ 1048576) := by show _ ≤ _; omega
  have Ld : Hid (d.length ≤ 1048576) := by show _ ≤ _; omega
  have HT1 : Hid (Below w.heap.size w w1) := hb
  have SZ1 : Hid (w.heap.size ≤ w1.heap.size) := hb.size
  clear hb ha hls hld
  obtain ⟨C, hC⟩ : ∃ y, y = (iotaR s d).1 := ⟨_, rfl⟩
  obtain ⟨S, hS⟩ : ∃ y, y = (iotaR s d).2.1 := ⟨_, rfl⟩
  obtain ⟨D, hD⟩ : ∃ y, y = (iotaR s d).2.2 := ⟨_, rfl⟩
  have EI : Hid (∀ (W : World) (u0 : Value) (_ : ArrI W u0 s d), Calls Try.prog 11 #[u0] W fun e w' => ∃ v, e = .returned (.tuple #[v, .int .i64 C]) ∧ Arr W.heap.size w'.heap.size w' v S D ∧ Below W.heap.size W w') := by
    intro W u0 h0
    rw [hC, hS, hD]
    exact iota_impl h0 Ld.out
  have ES : Hid (∀ (W : World) (u0 : Value) (_ : ArrI W u0 s d), Calls Try.prog 12 #[u0] W fun e w' => ∃ v, e = .returned (.tuple #[v, .int .i64 C]) ∧ Arr W.heap.size w'.heap.size w' v S D ∧ Below W.heap.size W w') := by
    intro W u0 h0
    rw [hC, hS, hD]
    exact iota_spec h0 Ld.out
  have FG : Hid (C = 0 → ∃ n : Nat, n ≤ 300 ∧ d.length = 1 ∧ d.getD 0 0 = (n : Int) ∧ S = [(n : Int)] ∧ D = upTo n ∧ gradeR [(n : Int)] (upTo n) = (0, [(n : Int)], upTo n)) := by
    intro h
    rw [hC] at h
    rw [hS, hD]
    exact iota_good h
  have FB : Hid (C ≠ 0 → D.length = 0) := by
    intro h
    rw [hC] at h
    rw [hD, iota_bad h]
    rfl
  have hneC : (C != C) = false := by simp
  clear hC hS hD
  go_wp2_with fail
  refine (EI.out _ _ ((N_1.out.arrI).keep (bAlloc (Below.refl _ _) _))).mono ?_
  rintro r w2 ⟨vG, rfl, ha, hb⟩
  obtain ⟨aG, cG, bG, eG, rfl, _, _, _, _⟩ := ha.arrI
  have G_2 : Hid (Arr (w1.heap.size + 1) w2.heap.size w2 (.agg #[.slice aG S.length cG, .slice bG D.length eG]) S D) := ha.mono (by first | exact Nat.le_refl _ | simp | (simp; omega)) (Nat.le_refl _)
  clear ha
  have HB2 : Hid (Below w1.heap.size w1 w2) := bTrans (bAlloc (Below.refl _ _) _) hb
  have HT2 : Hid (Below w.heap.size w w2) := bTrans HT1.out HB2.out
  have SZ2 : Hid (w1.heap.size ≤ w2.heap.size) := HB2.out.size
  have N_2 : Hid (Arr w.heap.size w1.heap.size w2 (.agg #[.slice a1 s.length c1, .slice b1 d.length e1]) s d) := N_1.out.keep HB2.out
  have QN_2 : Hid (Box w2 w1.heap.size (.slice a1 s.length c1) (.slice b1 d.length e1) 26) := (box_new w1 _ _ _).keep hb
  have LTQN : Hid (w1.heap.size < w2.heap.size) := QN_2.out.lt
  clear N_1 hb
  have QNc0 := QN_2.out.c0
  have QNc1 := QN_2.out.c1
  have QNd0 : ∀ o : Obj, (w2.alloc o).cell? ⟨w1.heap.size, 0, none⟩ = some (.slice a1 s.length c1) := fun o => (QN_2.out.keep (bAlloc (Below.refl _ _) o)).c0
  have QNd1 : ∀ o : Obj, (w2.alloc o).cell? ⟨w1.heap.size, 1, none⟩ = some (.slice b1 d.length e1) := fun o => (QN_2.out.keep (bAlloc (Below.refl _ _) o)).c1
  go_wp2_with fail
  refine (ES.out _ _ ((N_2.out.arrI).keep (bAlloc (Below.refl _ _) _))).mono ?_
  rintro r w3 ⟨vW, rfl, ha, hb⟩
  obtain ⟨aW, cW, bW, eW, rfl, _, _, _, _⟩ := ha.arrI
  have W_3 : Hid (Arr (w2.heap.size + 1) w3.heap.size w3 (.agg #[.slice aW S.length cW, .slice bW D.length eW]) S D) := ha.mono (by first | exact Nat.le_refl _ | simp | (simp; omega)) (Nat.le_refl _)
  clear ha
  have HB3 : Hid (Below w2.heap.size w2 w3) := bTrans (bAlloc (Below.refl _ _) _) hb
  have HT3 : Hid (Below w.heap.size w w3) := bTrans HT2.out HB3.out
  have SZ3 : Hid (w2.heap.size ≤ w3.heap.size) := HB3.out.size
  have QN_3 : Hid (Box w3 w1.heap.size (.slice a1 s.length c1) (.slice b1 d.length e1) 26) := QN_2.out.keep HB3.out
  have N_3 : Hid (Arr w.heap.size w1.heap.size w3 (.agg #[.slice a1 s.length c1, .slice b1 d.length e1]) s d) := N_2.out.keep HB3.out
  have G_3 : Hid (Arr (w1.heap.size + 1) w2.heap.size w3 (.agg #[.slice aG S.length cG, .slice bG D.length eG]) S D) := G_2.out.keep HB3.out
  have QG_3 : Hid (Box w3 w2.heap.size (.slice aG S.length cG) (.slice bG D.length eG) 26) := (box_new w2 _ _ _).keep hb
  have LTQG : Hid (w2.heap.size < w3.heap.size) := QG_3.out.lt
  clear QN_2 N_2 G_2 QNc0 QNc1 QNd0 QNd1 hb
  have QNc0 := QN_3.out.c0
  have QNc1 := QN_3.out.c1
  have QNd0 : ∀ o : Obj, (w3.alloc o).cell? ⟨w1.heap.size, 0, none⟩ = some (.slice a1 s.length c1) := fun o => (QN_3.out.keep (bAlloc (Below.refl _ _) o)).c0
  have QNd1 : ∀ o : Obj, (w3.alloc o).cell? ⟨w1.heap.size, 1, none⟩ = some (.slice b1 d.length e1) := fun o => (QN_3.out.keep (bAlloc (Below.refl _ _) o)).c1
  have QGc0 := QG_3.out.c0
  have QGc1 := QG_3.out.c1
  have QGd0 : ∀ o : Obj, (w3.alloc o).cell? ⟨w2.heap.size, 0, none⟩ = some (.slice aG S.length cG) := fun o => (QG_3.out.keep (bAlloc (Below.refl _ _) o)).c0
  have QGd1 : ∀ o : Obj, (w3.alloc o).cell? ⟨w2.heap.size, 1, none⟩ = some (.slice bG D.length eG) := fun o => (QG_3.out.keep (bAlloc (Below.refl _ _) o)).c1
  by_cases hc : C = 0
  · obtain ⟨n, hn, hd1, hdn, hSn, hDn, hgr⟩ := FG.out hc
    subst hc
    have DL : Hid (D.length = n) := by show _ = _; rw [hDn, upTo_len]
    have DA : Hid (∀ i, i < n → D.getD i 0 = (i : Int)) := fun i hi => by rw [hDn]; exact upTo_at hi
    have LS1 : Hid (S.length ≤ 1048576) := by show _ ≤ _; rw [hSn]; simp
    have LD1 : Hid (D.length ≤ 1048576) := by have := DL.out; show _ ≤ _; omega
    have EG : Hid (∀ (W : World) (u : Value), ArrI W u S D → Calls Try.prog 13 #[u] W fun e w' => ∃ v, e = .returned (.tuple #[v, .int .i64 0]) ∧ Arr W.heap.size w'.heap.size w' v S D ∧ Below W.heap.size W w') := fun W u hu => by
      have q := grade_impl sorts_ints hu LS1.out LD1.out
      rw [hSn, hDn, hgr] at q
      rw [hSn, hDn]
      exact q
    have SA : Hid (∀ (W : World) (u v : Value), ArrI W u S D → ArrI W v S D → Calls Try.prog 14 #[u, v] W fun e w' => e = .returned (.bool true) ∧ Below W.heap.size W w') := fun W u v h k => by
      have q := same_arr h k LS1.out LD1.out
      simpa using q
    have HN3 : Hid (n ≤ 300) := hn
    have D1 : Hid (d.length = 1 ∧ d.getD 0 0 = (n : Int)) := ⟨hd1, hdn⟩
    clear hn hd1 hdn hSn hDn hgr FG FB
    go_wp2_with fail
    generalize hW : w3.alloc (.cells #[.slice aW S.length cW, .slice bW D.length eW] 26) = WL
    have BL : Hid (Below w3.heap.size w3 WL) := by rw [← hW]; exact bAlloc (Below.refl _ _) _
    clear hW
    have HTL : Hid (Below w.heap.size w WL) := bTrans HT3.out BL.out
    have QNL : Hid (Box WL w1.heap.size (.slice a1 s.length c1) (.slice b1 d.length e1) 26) := QN_3.out.keep BL.out
    have QGL : Hid (Box WL w2.heap.size (.slice aG S.length cG) (.slice bG D.length eG) 26) := QG_3.out.keep BL.out
    have NL : Hid (ArrI WL (.agg #[.slice a1 s.length c1, .slice b1 d.length e1]) s d) := N_3.out.arrI.keep BL.out
    have GL : Hid (ArrI WL (.agg #[.slice aG S.length cG, .slice bG D.length eG]) S D) := G_3.out.arrI.keep BL.out
    clear QNc0 QNc1 QNd0 QNd1 QGc0 QGc1 QGd0 QGd1
    go_loopw [8] (fun i w' => ∃ k : Nat, k ≤ n ∧ i = .int .i64 (k : Int) ∧ Below WL.heap.size WL w') (fun i _ => n - (intOf i).toNat)
    case atStart => exact ⟨0, by omega, rfl, Below.refl _ _⟩
    case round =>
      obtain ⟨k, hk, rfl, hB⟩ := hrel
      have HC : Hid (Below WL.heap.size WL wr) := hB
      have q1 := (QGL.out.keep hB).c1
      have hkb : k ≤ 300 := by have := HN3.out; omega
      have hDb : (D.length : Int) ≤ 300 := by have := HN3.out; have := DL.out; omega
      by_cases hlt : (k : Int) < (D.length : Int)
      · obtain ⟨_, _, _, _, ev, _, i1, _, _⟩ := GL.out.keep hB
        cases ev
        obtain ⟨p1, o1, rfl, hp1, t1⟩ := i1.at (k := k) (by omega)
        rw [DA.out k (by have := DL.out; omega)] at t1
        have hkk : ((k : Int) != (k : Int)) = false := by simp
        clear hB i1
        go_wp2
        go_roundw
        case rel => exact ⟨k + 1, by have := DL.out; omega, by go_num, HC.out⟩
        case measure => have := DL.out; simp [intOf]; omega
      · have QNr : Hid (Box wr w1.heap.size (.slice a1 s.length c1) (.slice b1 d.length e1) 26) := QNL.out.keep hB
        have QGr : Hid (Box wr w2.heap.size (.slice aG S.length cG) (.slice bG D.length eG) 26) := QGL.out.keep hB
        have GR : Hid (ArrI wr (.agg #[.slice aG S.length cG, .slice bG D.length eG]) S D) := GL.out.keep hB
        obtain ⟨_, _, _, _, ev, _, i1, _, _⟩ := NL.out.keep hB
        cases ev
        obtain ⟨p1, o1, rfl, hp1, t1⟩ := i1.at (k := 0) (by have := D1.out.1; omega)
        rw [D1.out.2] at t1
        have HT1' : Hid (wr.cell? ⟨p1, o1, none⟩ = some (.int .i64 (n : Int)) ∧ p1 < wr.heap.size) := ⟨by simpa using t1, hp1⟩
        have q0 := QGr.out.c0
        have hdl : (0 : Int) < (d.length : Int) := by have := D1.out.1; omega
        have hdl2 : 0 < d.length := by have := D1.out.1; omega
        have hDn : ((D.length : Int) == (n : Int)) = true := by have := DL.out; simp; omega
        clear hB i1 t1
        go_wp2_with fail
        refine (EG.out _ _ GR.out).mono ?_
        rintro r w7 ⟨v7, rfl, hA, hb⟩
        obtain ⟨a7, c7, b7, e7, rfl, _, _, _, _⟩ := hA.arrI
        have A7 : Hid (ArrI w7 (.agg #[.slice a7 S.length c7, .slice b7 D.length e7]) S D) := hA.arrI
        have B7 : Hid (Below wr.heap.size wr w7) := hb
        clear hA hb q0 q1
        go_wp2_with fail
        generalize hW : w7.alloc (.cells #[.slice a7 S.length c7, .slice b7 D.length e7] 26) = W8
        have B8 : Hid (Below w7.heap.size w7 W8) := by rw [← hW]; exact bAlloc (Below.refl _ _) _
        have Q8 : Hid (Box W8 w7.heap.size (.slice a7 S.length c7) (.slice b7 D.length e7) 26) := by rw [← hW]; exact box_new w7 _ _ _
        have BR8 : Hid (Below wr.heap.size wr W8) := bTrans B7.out B8.out
        have A8 : Hid (ArrI W8 (.agg #[.slice a7 S.length c7, .slice b7 D.length e7]) S D) := A7.out.keep B8.out
        have G8 : Hid (ArrI W8 (.agg #[.slice aG S.length cG, .slice bG D.length eG]) S D) := GR.out.keep BR8.out
        have HT8 : Hid (Below w.heap.size w W8) := bTrans (bTrans HTL.out HC.out) BR8.out
        clear hW
        have m0 := (QGr.out.keep BR8.out).c0
        have m1 := (QGr.out.keep BR8.out).c1
        have m2 := (QNr.out.keep BR8.out).c1
        have m3 := Q8.out.c0
        have m4 := Q8.out.c1
        have m5 : W8.cell? ⟨p1, o1, none⟩ = some (.int .i64 (n : Int)) := (BR8.out.cell (p := ⟨p1, o1, none⟩) HT1'.out.2).trans HT1'.out.1
        go_region_held3 (fun w' => w'.cell? ⟨w2.heap.size, 0, none⟩ = some (.slice aG S.length cG) ∧ w'.cell? ⟨w2.heap.size, 1, none⟩ = some (.slice bG D.length eG) ∧ w'.cell? ⟨w1.heap.size, 1, none⟩ = some (.slice (some ⟨p1, o1, none⟩) d.length e1) ∧ w'.cell? ⟨w7.heap.size, 0, none⟩ = some (.slice a7 S.length c7) ∧ w'.cell? ⟨w7.heap.size, 1, none⟩ = some (.slice b7 D.length e7) ∧ w'.cell? ⟨p1, o1, none⟩ = some (.int .i64 (n : Int)))
          (first | with_reducible exact ⟨z0, z1, z2, z3, z4, z5⟩ | exact ⟨m0, m1, m2, m3, m4, m5⟩)
          ((go_at_call 14; refine (SA.out _ _ _ (A8.out.keep ((Below.refl W8.heap.size W8).drew)) (G8.out.keep ((Below.refl W8.heap.size W8).drew))).mono ?_; rintro r wz ⟨rfl, hb⟩; have BZ : Hid (Below W8.heap.size W8 wz) := bTrans ((Below.refl W8.heap.size W8).drew) hb; have z0 := ((QGr.out.keep BR8.out).keep BZ.out).c0; have z1 := ((QGr.out.keep BR8.out).keep BZ.out).c1; have z2 := ((QNr.out.keep BR8.out).keep BZ.out).c1; have z3 := (Q8.out.keep BZ.out).c0; have z4 := (Q8.out.keep BZ.out).c1; have z5 := (BZ.out.cell (p := ⟨p1, o1, none⟩) (Nat.lt_of_lt_of_le HT1'.out.2 BR8.out.size)).trans m5; clear hb))
        all_goals go_wp2
        all_goals go_ret
        all_goals exact ⟨rfl, bTrans HT8.out BZ.out⟩
  · have n0 : (C != 0) = true := by simpa using hc
    have hl : ((D.length : Int) == 0) = true := by rw [FB.out hc]; rfl
    have hl2 : D.length = 0 := FB.out hc
    clear FG FB
    go_wp2
    go_ret
    exact ⟨rfl, bTrans HT3.out (bAlloc (Below.refl _ _) _)⟩

/-! ### THE ROW's STEP: WRITTEN OUT: LEAVE IT -/
set_option maxRecDepth 100000 in
theorem lifted (os : Os) (started : os.Started) (H : Type) (enc : TypeId × Value → H) :
    ReturnsInHanded {} Try.checked os 3 .any (Rows.fnIotaSpec.pre6 enc Try.prog Try.f3 Rows.fnIotaRow.domain false) (Rows.fnIotaSpec.post enc Try.prog Try.f3 false true false false) := by
  refine returnsInHanded_of_change (C := Try.checked) own started (by kernel_rfl) Try.func3
    (ChangeSpec.witness6 (enc := enc) (C := Try.checked) false ⟨#[], #[.slice none 0 0], []⟩ 8 (by kernel_rfl) (by kernel_rfl) (by kernel_rfl) (by kernel_rfl)) ?_
  intro W base args ds gs before hval0 hW hcnd _
  have hval : ∀ (j : Nat) t v, Try.f3.params[j]? = some t → args[j]? = some v → Value.okWide Try.prog W .any base t v := hval0
  have hW' := hW
  obtain ⟨p, q, hA0, hV, rfl, hfz, hnd⟩ := hW
  have hA : DataW.TrodAll enc Try.prog W 0 (fun _ => true) true Try.f3.params.toList args.toList ds p := hA0
  rw [Try.params3] at hA hval
  obtain ⟨v0, vs0, d0, ds0, p0, q0, hargs, rfl, rfl, h0, r0⟩ := trodAll_cons hA
  obtain ⟨rfl, rfl, rfl⟩ := trodAll_nil r0
  obtain rfl : args = #[v0] := by cases args; simp_all
  obtain ⟨rfl, rfl⟩ := trodVars_none hV
  obtain ⟨a0, len0, cap0, rfl⟩ := okWide_slice Try.underlying22 (hval 0 22 v0 rfl rfl)
  have k0 := h0
  have lt0 : ∀ x ∈ p0, x.block < W.heap.size := by obtain ⟨m, hm⟩ := k0; exact DataW.trod_lt m _ _ _ hm
  obtain ⟨z0, w0⟩ : ∃ zs, IsRow .u8 W a0 len0 cap0 zs := by
    obtain ⟨fuel, hf⟩ := h0
    rcases open_ints Try.underlying22 Try.underlying5 (by kernel_rfl) hf with ⟨hcs, _⟩ | ⟨x, l, c, zs, hcs, _, hl, hm, hz, _, hcell, hwz⟩
    · simp [Value.cells] at hcs
      obtain ⟨rfl, rfl, rfl⟩ := hcs
      exact ⟨[], .inl ⟨rfl, rfl, rfl, rfl⟩⟩
    · simp [Value.cells] at hcs
      obtain ⟨rfl, rfl, rfl⟩ := hcs
      exact ⟨zs, .inr ⟨_, rfl, hl, hm, by simpa using hz, hcell, hwz⟩⟩
  clear hA0 hval0
  refine (walk a0 len0 cap0 z0 W w0).mono fun e W' ⟨he, bel⟩ => ?_
  subst he
  exact ⟨_, rfl, _, _, _, [], _, [], hW', trodAll_mk1 (shut_bool Try.underlying4 _), (trodAll_cons_mk (Below.trod laidOut (by kernel_rfl) (of_decide_eq_true (by kernel_rfl)) k0 bel lt0) trodAll_mk0), rfl, bel.frame _, fun h => by cases h⟩

theorem over : Rows.fnIotaRow.holds Try.pinned (OpenSpec.ofChange Rows.fnIotaSpec) :=
  OpenClaim.holds_of_wide 3 Try.f3 rfl rfl rfl rfl rfl rfl rfl ⟨rfl, rfl, rfl, rfl, rfl⟩ rfl rfl rfl rfl rfl (by kernel_rfl) Try.func3 (by kernel_rfl)
    (of_decide_eq_true (by kernel_rfl)) (by unfold Func.isWrapper; first | (rw [if_pos (by decide +kernel)]; kernel_rfl) | (rw [if_neg (by decide +kernel)]; exact ⟨rfl, rfl⟩))
    (fun os started H enc _ => lifted os started H enc)

/-- ████ THE STATEMENT ████ -/
theorem proved : Rows.FnIotaSaid := over
end Go.Proofs.Ythjjjnapcbkhjaa.fnIota
namespace Go.Proofs.Ythjjjnapcbkhjaa
theorem fnIota_holds : Rows.FnIotaSaid := fnIota.proved
#print axioms fnIota_holds
end Go.Proofs.Ythjjjnapcbkhjaa
