/-
  Proved: whatever bytes it is given, the law FnArrayBytes returns true (a drawn array is read from its bytes as it was; drawn bytes that are read are those of the array), and the bytes read as before. No condition.
-/
import Derived.Test.YtonkiipdobpfgaaRows
import Derived.WalkKit
import Derived.ProofKit
import Derived.OpenShut
import Derived.ShutString
import Derived.ChangeOld
import Derived.Below
import Derived.Test.YtonkiipdobpfgaaDrawAPY
import Derived.Test.YtonkiipdobpfgaaArdS2
import Derived.Test.YtonkiipdobpfgaaZ1
import Derived.Test.YtonkiipdobpfgaaImplArr3
import Derived.Test.YtonkiipdobpfgaaLaw3
namespace Go.Proofs.Ytonkiipdobpfgaa.fnArrayBytes
open Go.ChangeShapes Go.WideShapes Go.ChangeAt Go.RowKit
open Go.ChangeMaps (open_string shut_string)
set_option linter.unusedVariables false
set_option linter.unusedSimpArgs false
set_option linter.unusedVariables false

theorem own : ownKnob Try.prog.godebug = none := by kernel_rfl
theorem laidOut : laidOutB Try.prog = true := by kernel_rfl

/-! ### STEP 1: THE WALK: the Go text returns true, AND WRITES NOTHING THAT WAS THERE: 'Below w.heap.size w w'' (Derived/Below.lean: '.refl', '.alloc', '.drew', '.setCell' at a new block, '.trans'). Open each 'IsRow' by 'rcases' AHEAD of 'go_enter'; part every test ahead of the walk. -/
set_option maxRecDepth 20000 in
set_option maxHeartbeats 8000000 in
theorem walk (a0 : Option Addr) (len0 cap0 : Nat) (z0 : List Int) (w : World) (w0 : IsRow .u8 w a0 len0 cap0 z0) :
    Calls Try.prog 5 #[.slice a0 len0 cap0] w fun e w' => e = .returned (.bool true) ∧ Below w.heap.size w w' := by
  have HS : Hid (Src w.heap.size w a0 len0) := src_of_row w0
  clear w0
  by_cases hbig : (1048576 : Int) < (len0 : Int)
  · go_enter Try.func5, Try.ntmps5
    go_wp2_with (go_at_call 19; refine (big_laws _ _ _ _).mono ?_; rintro e w' ⟨rfl, hw⟩; subst w')
    go_ret
    exact ⟨rfl, Below.refl _ _⟩
  have hb20 : len0 ≤ 1048576 := by omega
  go_enter Try.func5, Try.ntmps5
  go_wp2_with (go_at_call 19; refine (big_laws _ _ _ _).mono ?_; rintro e w' ⟨rfl, hw⟩; subst w')
  refine (drawArrayPack_spec HS.out hb20).mono ?_
  rintro r w1 ⟨v1, s, d, rfl, ha, hls, hld, hb⟩
  obtain ⟨a1, c1, b1, e1, rfl, _, _, _, _⟩ := ha.arrI
  have N_1 : Hid (Arr w.heap.size w1.heap.size w1 (.agg #[.slice a1 s.length c1, .slice b1 d.length e1]) s d) := ha
  have Ls : Hid (s.length ≤ 1048576) := by show _ ≤ _; omega
  have Ld : Hid (d.length ≤ 1048576) := by show _ ≤ _; omega
  have HT1 : Hid (Below w.heap.size w w1) := hb
  have SZ1 : Hid (w.heap.size ≤ w1.heap.size) := hb.size
  clear hb ha hls hld
  have CX : Hid (∀ (W : World) (u : Value) (b : List Int), RawB W u b → Calls Try.prog 17 #[u] W fun e w' => ∃ v, e = .returned (.tuple #[v, .bool (ardB b)]) ∧ Arr W.heap.size w'.heap.size w' v (if ardB b = true then shB b else []) (if ardB b = true then dtB b else []) ∧ Below W.heap.size W w') := fun W u b h => by
    obtain ⟨a, c, rfl, hb, hl, hc, hm, hy⟩ := h
    exact arrayRead_impl hy hb rfl hc (Nat.le_trans hl (by decide)) hm
  have CY : Hid (∀ (W : World) (u : Value) (b : List Int), RawB W u b → Calls Try.prog 15 #[u] W fun e w' => ∃ v, e = .returned (.tuple #[v, .bool (ardB b)]) ∧ Arr W.heap.size w'.heap.size w' v (if ardB b = true then shB b else []) (if ardB b = true then dtB b else []) ∧ Below W.heap.size W w') := fun W u b h => by
    obtain ⟨a, c, rfl, hb, hl, hc, hm, hy⟩ := h
    exact arrayRead_spec hy hb rfl (Nat.le_trans hl (by decide))
  have CZ : Hid (∀ (W : World) (u : Value) (x y : List Int), ArrI W u x y → y.length ≤ 1048576 → Calls Try.prog 9 #[u] W fun e w' => ∃ v, e = .returned (.tuple #[v, .bool (arrOk x y)]) ∧ RawB w' v (if arrOk x y = true then apack x y else []) ∧ Below W.heap.size W w') := fun W u x y h hy => by
    refine (arrayPack_impl h hy).mono ?_
    rintro e w' ⟨a, c, rfl, hN, hb⟩
    refine ⟨_, rfl, newB_raw hN ?_ ?_, hb⟩
    · by_cases q : arrOk x y = true
      · rw [if_pos q]; exact apack_isB q
      · rw [if_neg q]; exact fun z hz => (by cases hz)
    · by_cases q : arrOk x y = true
      · rw [if_pos q]; exact Nat.le_trans (apack_len q) (by decide)
      · rw [if_neg q]; simp
  have CS : Hid (∀ (W : World) (u : Value), ArrI W u s d → Calls Try.prog 21 #[u] W fun e w' => e = .returned (.bool (arrOk s d)) ∧ Below W.heap.size W w') := fun W u h => arrOk_spec h Ld.out
  have CI : Hid (∀ (W : World) (u : Value), ArrI W u s d → Calls Try.prog 22 #[u] W fun e w' => e = .returned (.bool (arrOk s d)) ∧ Below W.heap.size W w') := fun W u h => arrOk_impl h Ld.out
  have SA : Hid (∀ (W : World) (u v : Value), ArrI W u s d → ArrI W v s d → Calls Try.prog 23 #[u, v] W fun e w' => e = .returned (.bool true) ∧ Below W.heap.size W w') := fun W u v h k => by
    have q := same_arr h k Ls.out Ld.out
    rw [decide_eq_true rfl, decide_eq_true rfl] at q
    exact q
  by_cases hV : arrOk s d = true
  · obtain ⟨q1, q2, q3⟩ := apack_read hV
    obtain ⟨P, hP⟩ : ∃ P, P = apack s d := ⟨_, rfl⟩
    have Z0 := fun W u h => CZ.out W u s d h Ld.out
    rw [hV, if_pos rfl, ← hP] at Z0
    have K0 := fun W u => CX.out W u P
    rw [← hP] at q1 q2 q3
    rw [q1, if_pos rfl, if_pos rfl, q2, q3] at K0
    rw [hV] at CS CI
    have KK : Hid (∀ (W : World) (u : Value), RawB W u P → Calls Try.prog 17 #[u] W fun e w' => ∃ v, e = .returned (.tuple #[v, .bool true]) ∧ Arr W.heap.size w'.heap.size w' v s d ∧ Below W.heap.size W w') := K0
    have Z9 : Hid (∀ (W : World) (u : Value), ArrI W u s d → Calls Try.prog 9 #[u] W fun e w' => ∃ v, e = .returned (.tuple #[v, .bool true]) ∧ RawB w' v P ∧ Below W.heap.size W w') := Z0
    clear q1 q2 q3 hP Z0 K0 hV
    go_wp2_with fail
    refine (Z9.out _ _ ((N_1.out.arrI).keep (bAlloc (Below.refl _ _) _))).mono ?_
    rintro r w2 ⟨vP, rfl, ha, hb⟩
    have ha1 := ha
    obtain ⟨aP, cP, rfl, _⟩ := ha1
    have P_2 : Hid (RawB w2 (.slice aP P.length cP) P) := ha
    clear ha
    have HB2 : Hid (Below w1.heap.size w1 w2) := bTrans (bAlloc (Below.refl _ _) _) hb
    have HT2 : Hid (Below w.heap.size w w2) := bTrans HT1.out HB2.out
    have SZ2 : Hid (w1.heap.size ≤ w2.heap.size) := HB2.out.size
    have N_2 : Hid (Arr w.heap.size w1.heap.size w2 (.agg #[.slice a1 s.length c1, .slice b1 d.length e1]) s d) := N_1.out.keep HB2.out
    have QN_2 : Hid (Box w2 w1.heap.size (.slice a1 s.length c1) (.slice b1 d.length e1) 29) := (box_new w1 _ _ _).keep hb
    have LTQN : Hid (w1.heap.size < w2.heap.size) := QN_2.out.lt
    clear N_1 hb
    have QNc0 := QN_2.out.c0
    have QNc1 := QN_2.out.c1
    go_wp2_with fail
    refine (CS.out _ _ (N_2.out.arrI)).mono ?_
    rintro r w3 ⟨rfl, hb⟩
    have HB3 : Hid (Below w2.heap.size w2 w3) := hb
    have HT3 : Hid (Below w.heap.size w w3) := bTrans HT2.out HB3.out
    have SZ3 : Hid (w2.heap.size ≤ w3.heap.size) := HB3.out.size
    have QN_3 : Hid (Box w3 w1.heap.size (.slice a1 s.length c1) (.slice b1 d.length e1) 29) := QN_2.out.keep HB3.out
    have N_3 : Hid (Arr w.heap.size w1.heap.size w3 (.agg #[.slice a1 s.length c1, .slice b1 d.length e1]) s d) := N_2.out.keep HB3.out
    have P_3 : Hid (RawB w3 (.slice aP P.length cP) P) := P_2.out.keep HB3.out
    clear QN_2 N_2 P_2 QNc0 QNc1 hb
    have QNc0 := QN_3.out.c0
    have QNc1 := QN_3.out.c1
    go_wp2_with fail
    refine (CI.out _ _ (N_3.out.arrI)).mono ?_
    rintro r w4 ⟨rfl, hb⟩
    have HB4 : Hid (Below w3.heap.size w3 w4) := hb
    have HT4 : Hid (Below w.heap.size w w4) := bTrans HT3.out HB4.out
    have SZ4 : Hid (w3.heap.size ≤ w4.heap.size) := HB4.out.size
    have QN_4 : Hid (Box w4 w1.heap.size (.slice a1 s.length c1) (.slice b1 d.length e1) 29) := QN_3.out.keep HB4.out
    have N_4 : Hid (Arr w.heap.size w1.heap.size w4 (.agg #[.slice a1 s.length c1, .slice b1 d.length e1]) s d) := N_3.out.keep HB4.out
    have P_4 : Hid (RawB w4 (.slice aP P.length cP) P) := P_3.out.keep HB4.out
    clear QN_3 N_3 P_3 QNc0 QNc1 hb
    have QNc0 := QN_4.out.c0
    have QNc1 := QN_4.out.c1
    go_wp2_with fail
    refine (KK.out _ _ (P_4.out)).mono ?_
    rintro r w5 ⟨vK, rfl, ha, hb⟩
    obtain ⟨aK, cK, bK, eK, rfl, _, _, _, _⟩ := ha.arrI
    have K_5 : Hid (Arr w4.heap.size w5.heap.size w5 (.agg #[.slice aK s.length cK, .slice bK d.length eK]) s d) := ha.mono (by first | exact Nat.le_refl _ | simp | (simp; omega)) (Nat.le_refl _)
    clear ha
    have HB5 : Hid (Below w4.heap.size w4 w5) := hb
    have HT5 : Hid (Below w.heap.size w w5) := bTrans HT4.out HB5.out
    have SZ5 : Hid (w4.heap.size ≤ w5.heap.size) := HB5.out.size
    have QN_5 : Hid (Box w5 w1.heap.size (.slice a1 s.length c1) (.slice b1 d.length e1) 29) := QN_4.out.keep HB5.out
    have N_5 : Hid (Arr w.heap.size w1.heap.size w5 (.agg #[.slice a1 s.length c1, .slice b1 d.length e1]) s d) := N_4.out.keep HB5.out
    have P_5 : Hid (RawB w5 (.slice aP P.length cP) P) := P_4.out.keep HB5.out
    clear QN_4 N_4 P_4 QNc0 QNc1 hb
    have QNc0 := QN_5.out.c0
    have QNc1 := QN_5.out.c1
    have QNd0 : ∀ o : Obj, (w5.alloc o).cell? ⟨w1.heap.size, 0, none⟩ = some (.slice a1 s.length c1) := fun o => (QN_5.out.keep (bAlloc (Below.refl _ _) o)).c0
    have QNd1 : ∀ o : Obj, (w5.alloc o).cell? ⟨w1.heap.size, 1, none⟩ = some (.slice b1 d.length e1) := fun o => (QN_5.out.keep (bAlloc (Below.refl _ _) o)).c1
    go_wp2_with fail
    refine (SA.out _ _ _ ((K_5.out.arrI).keep (bAlloc (Below.refl _ _) _)) ((N_5.out.arrI).keep (bAlloc (Below.refl _ _) _))).mono ?_
    rintro r w6 ⟨rfl, hb⟩
    have HB6 : Hid (Below w5.heap.size w5 w6) := bTrans (bAlloc (Below.refl _ _) _) hb
    have HT6 : Hid (Below w.heap.size w w6) := bTrans HT5.out HB6.out
    have SZ6 : Hid (w5.heap.size ≤ w6.heap.size) := HB6.out.size
    have QN_6 : Hid (Box w6 w1.heap.size (.slice a1 s.length c1) (.slice b1 d.length e1) 29) := QN_5.out.keep HB6.out
    have N_6 : Hid (Arr w.heap.size w1.heap.size w6 (.agg #[.slice a1 s.length c1, .slice b1 d.length e1]) s d) := N_5.out.keep HB6.out
    have P_6 : Hid (RawB w6 (.slice aP P.length cP) P) := P_5.out.keep HB6.out
    have K_6 : Hid (Arr w4.heap.size w5.heap.size w6 (.agg #[.slice aK s.length cK, .slice bK d.length eK]) s d) := K_5.out.keep HB6.out
    have QK_6 : Hid (Box w6 w5.heap.size (.slice aK s.length cK) (.slice bK d.length eK) 29) := (box_new w5 _ _ _).keep hb
    have LTQK : Hid (w5.heap.size < w6.heap.size) := QK_6.out.lt
    clear QN_5 N_5 P_5 K_5 QNc0 QNc1 QNd0 QNd1 hb
    have QNc0 := QN_6.out.c0
    have QNc1 := QN_6.out.c1
    have QKc0 := QK_6.out.c0
    have QKc1 := QK_6.out.c1
    go_wp2_with fail
    refine (drawArrayRead_spec (srcKeep HS.out HT6.out) hb20).mono ?_
    rintro r w7 ⟨vR, raw, rfl, ha, hb⟩
    have ha1 := ha
    obtain ⟨aR, cR, rfl, _⟩ := ha1
    have R_7 : Hid (RawB w7 (.slice aR raw.length cR) raw) := ha
    clear ha
    have HB7 : Hid (Below w6.heap.size w6 w7) := hb
    have HT7 : Hid (Below w.heap.size w w7) := bTrans HT6.out HB7.out
    have SZ7 : Hid (w6.heap.size ≤ w7.heap.size) := HB7.out.size
    have QN_7 : Hid (Box w7 w1.heap.size (.slice a1 s.length c1) (.slice b1 d.length e1) 29) := QN_6.out.keep HB7.out
    have QK_7 : Hid (Box w7 w5.heap.size (.slice aK s.length cK) (.slice bK d.length eK) 29) := QK_6.out.keep HB7.out
    clear QN_6 QK_6 QNc0 QNc1 QKc0 QKc1 hb
    have QNc0 := QN_7.out.c0
    have QNc1 := QN_7.out.c1
    have QKc0 := QK_7.out.c0
    have QKc1 := QK_7.out.c1
    by_cases hR : ardB raw = true
    · have HR0 : Hid (0 < raw.length) := ardB_pos hR
      obtain ⟨hok, hap⟩ := read_apack (R_7.out.isB) hR
      obtain ⟨S, hS⟩ : ∃ S, S = shB raw := ⟨_, rfl⟩
      obtain ⟨D, hD⟩ : ∃ D, D = dtB raw := ⟨_, rfl⟩
      rw [← hS, ← hD] at hok hap
      have LD : Hid (D.length ≤ 1048576) := by show _ ≤ _; have := arrOk_len hok; omega
      have X1 := fun W u => CX.out W u raw
      have Y1 := fun W u => CY.out W u raw
      have Z1 := fun W u h => CZ.out W u S D h LD.out
      rw [hR, if_pos rfl, if_pos rfl, ← hS, ← hD] at X1 Y1
      rw [hok, if_pos rfl, hap] at Z1
      have XX : Hid (∀ (W : World) (u : Value), RawB W u raw → Calls Try.prog 17 #[u] W fun e w' => ∃ v, e = .returned (.tuple #[v, .bool true]) ∧ Arr W.heap.size w'.heap.size w' v S D ∧ Below W.heap.size W w') := X1
      have YY : Hid (∀ (W : World) (u : Value), RawB W u raw → Calls Try.prog 15 #[u] W fun e w' => ∃ v, e = .returned (.tuple #[v, .bool true]) ∧ Arr W.heap.size w'.heap.size w' v S D ∧ Below W.heap.size W w') := Y1
      have ZZ : Hid (∀ (W : World) (u : Value), ArrI W u S D → Calls Try.prog 9 #[u] W fun e w' => ∃ v, e = .returned (.tuple #[v, .bool true]) ∧ RawB w' v raw ∧ Below W.heap.size W w') := Z1
      clear hok hap hS hD X1 Y1 Z1 hR CX CY CZ
      go_wp2_with fail
      refine (XX.out _ _ (R_7.out)).mono ?_
      rintro r w8 ⟨vX, rfl, ha, hb⟩
      obtain ⟨aX, cX, bX, eX, rfl, _, _, _, _⟩ := ha.arrI
      have X_8 : Hid (Arr w7.heap.size w8.heap.size w8 (.agg #[.slice aX S.length cX, .slice bX D.length eX]) S D) := ha.mono (by first | exact Nat.le_refl _ | simp | (simp; omega)) (Nat.le_refl _)
      clear ha
      have HB8 : Hid (Below w7.heap.size w7 w8) := hb
      have HT8 : Hid (Below w.heap.size w w8) := bTrans HT7.out HB8.out
      have SZ8 : Hid (w7.heap.size ≤ w8.heap.size) := HB8.out.size
      have QN_8 : Hid (Box w8 w1.heap.size (.slice a1 s.length c1) (.slice b1 d.length e1) 29) := QN_7.out.keep HB8.out
      have QK_8 : Hid (Box w8 w5.heap.size (.slice aK s.length cK) (.slice bK d.length eK) 29) := QK_7.out.keep HB8.out
      have R_8 : Hid (RawB w8 (.slice aR raw.length cR) raw) := R_7.out.keep HB8.out
      clear QN_7 QK_7 R_7 QNc0 QNc1 QKc0 QKc1 hb
      have QNc0 := QN_8.out.c0
      have QNc1 := QN_8.out.c1
      have QNd0 : ∀ o : Obj, (w8.alloc o).cell? ⟨w1.heap.size, 0, none⟩ = some (.slice a1 s.length c1) := fun o => (QN_8.out.keep (bAlloc (Below.refl _ _) o)).c0
      have QNd1 : ∀ o : Obj, (w8.alloc o).cell? ⟨w1.heap.size, 1, none⟩ = some (.slice b1 d.length e1) := fun o => (QN_8.out.keep (bAlloc (Below.refl _ _) o)).c1
      have QKc0 := QK_8.out.c0
      have QKc1 := QK_8.out.c1
      have QKd0 : ∀ o : Obj, (w8.alloc o).cell? ⟨w5.heap.size, 0, none⟩ = some (.slice aK s.length cK) := fun o => (QK_8.out.keep (bAlloc (Below.refl _ _) o)).c0
      have QKd1 : ∀ o : Obj, (w8.alloc o).cell? ⟨w5.heap.size, 1, none⟩ = some (.slice bK d.length eK) := fun o => (QK_8.out.keep (bAlloc (Below.refl _ _) o)).c1
      go_wp2_with fail
      refine (YY.out _ _ ((R_8.out).keep (bAlloc (Below.refl _ _) _))).mono ?_
      rintro r w9 ⟨vY, rfl, ha, hb⟩
      obtain ⟨aY, cY, bY, eY, rfl, _, _, _, _⟩ := ha.arrI
      have Y_9 : Hid (Arr (w8.heap.size + 1) w9.heap.size w9 (.agg #[.slice aY S.length cY, .slice bY D.length eY]) S D) := ha.mono (by first | exact Nat.le_refl _ | simp | (simp; omega)) (Nat.le_refl _)
      clear ha
      have HB9 : Hid (Below w8.heap.size w8 w9) := bTrans (bAlloc (Below.refl _ _) _) hb
      have HT9 : Hid (Below w.heap.size w w9) := bTrans HT8.out HB9.out
      have SZ9 : Hid (w8.heap.size ≤ w9.heap.size) := HB9.out.size
      have QN_9 : Hid (Box w9 w1.heap.size (.slice a1 s.length c1) (.slice b1 d.length e1) 29) := QN_8.out.keep HB9.out
      have QK_9 : Hid (Box w9 w5.heap.size (.slice aK s.length cK) (.slice bK d.length eK) 29) := QK_8.out.keep HB9.out
      have R_9 : Hid (RawB w9 (.slice aR raw.length cR) raw) := R_8.out.keep HB9.out
      have X_9 : Hid (Arr w7.heap.size w8.heap.size w9 (.agg #[.slice aX S.length cX, .slice bX D.length eX]) S D) := X_8.out.keep HB9.out
      have QX_9 : Hid (Box w9 w8.heap.size (.slice aX S.length cX) (.slice bX D.length eX) 29) := (box_new w8 _ _ _).keep hb
      have LTQX : Hid (w8.heap.size < w9.heap.size) := QX_9.out.lt
      clear QN_8 QK_8 R_8 X_8 QNc0 QNc1 QNd0 QNd1 QKc0 QKc1 QKd0 QKd1 hb
      have QNc0 := QN_9.out.c0
      have QNc1 := QN_9.out.c1
      have QNd0 : ∀ o : Obj, (w9.alloc o).cell? ⟨w1.heap.size, 0, none⟩ = some (.slice a1 s.length c1) := fun o => (QN_9.out.keep (bAlloc (Below.refl _ _) o)).c0
      have QNd1 : ∀ o : Obj, (w9.alloc o).cell? ⟨w1.heap.size, 1, none⟩ = some (.slice b1 d.length e1) := fun o => (QN_9.out.keep (bAlloc (Below.refl _ _) o)).c1
      have QKc0 := QK_9.out.c0
      have QKc1 := QK_9.out.c1
      have QKd0 : ∀ o : Obj, (w9.alloc o).cell? ⟨w5.heap.size, 0, none⟩ = some (.slice aK s.length cK) := fun o => (QK_9.out.keep (bAlloc (Below.refl _ _) o)).c0
      have QKd1 : ∀ o : Obj, (w9.alloc o).cell? ⟨w5.heap.size, 1, none⟩ = some (.slice bK d.length eK) := fun o => (QK_9.out.keep (bAlloc (Below.refl _ _) o)).c1
      have QXc0 := QX_9.out.c0
      have QXc1 := QX_9.out.c1
      have QXd0 : ∀ o : Obj, (w9.alloc o).cell? ⟨w8.heap.size, 0, none⟩ = some (.slice aX S.length cX) := fun o => (QX_9.out.keep (bAlloc (Below.refl _ _) o)).c0
      have QXd1 : ∀ o : Obj, (w9.alloc o).cell? ⟨w8.heap.size, 1, none⟩ = some (.slice bX D.length eX) := fun o => (QX_9.out.keep (bAlloc (Below.refl _ _) o)).c1
      go_wp2_with fail
      refine (ZZ.out _ _ ((X_9.out.arrI).keep (bAlloc (Below.refl _ _) _))).mono ?_
      rintro r w10 ⟨vZ, rfl, ha, hb⟩
      have ha1 := ha
      obtain ⟨aZ, cZ, rfl, _⟩ := ha1
      have Z_10 : Hid (RawB w10 (.slice aZ raw.length cZ) raw) := ha
      clear ha
      have HB10 : Hid (Below w9.heap.size w9 w10) := bTrans (bAlloc (Below.refl _ _) _) hb
      have HT10 : Hid (Below w.heap.size w w10) := bTrans HT9.out HB10.out
      have SZ10 : Hid (w9.heap.size ≤ w10.heap.size) := HB10.out.size
      have QN_10 : Hid (Box w10 w1.heap.size (.slice a1 s.length c1) (.slice b1 d.length e1) 29) := QN_9.out.keep HB10.out
      have QK_10 : Hid (Box w10 w5.heap.size (.slice aK s.length cK) (.slice bK d.length eK) 29) := QK_9.out.keep HB10.out
      have QX_10 : Hid (Box w10 w8.heap.size (.slice aX S.length cX) (.slice bX D.length eX) 29) := QX_9.out.keep HB10.out
      have R_10 : Hid (RawB w10 (.slice aR raw.length cR) raw) := R_9.out.keep HB10.out
      have X_10 : Hid (Arr w7.heap.size w8.heap.size w10 (.agg #[.slice aX S.length cX, .slice bX D.length eX]) S D) := X_9.out.keep HB10.out
      have Y_10 : Hid (Arr (w8.heap.size + 1) w9.heap.size w10 (.agg #[.slice aY S.length cY, .slice bY D.length eY]) S D) := Y_9.out.keep HB10.out
      have QY_10 : Hid (Box w10 w9.heap.size (.slice aY S.length cY) (.slice bY D.length eY) 29) := (box_new w9 _ _ _).keep hb
      have LTQY : Hid (w9.heap.size < w10.heap.size) := QY_10.out.lt
      clear QN_9 QK_9 QX_9 R_9 X_9 Y_9 QNc0 QNc1 QNd0 QNd1 QKc0 QKc1 QKd0 QKd1 QXc0 QXc1 QXd0 QXd1 hb
      have QNc0 := QN_10.out.c0
      have QNc1 := QN_10.out.c1
      have QKc0 := QK_10.out.c0
      have QKc1 := QK_10.out.c1
      have QXc0 := QX_10.out.c0
      have QXc1 := QX_10.out.c1
      have QYc0 := QY_10.out.c0
      have QYc1 := QY_10.out.c1
      have v1 : (convert 26 9 (.slice aZ raw.length cZ)).run Try.prog w10 = .ok (.string (strOfNums raw)) w10 := Z_10.out.conv HR0.out
      have v2 : (convert 26 9 (.slice aR raw.length cR)).run Try.prog w10 = .ok (.string (strOfNums raw)) w10 := R_10.out.conv HR0.out
      go_wp2
      go_ret
      exact ⟨rfl, HT10.out⟩
    · have hR : ardB raw = false := by simpa using hR
      obtain ⟨S, hS⟩ : ∃ S : List Int, S = [] := ⟨_, rfl⟩
      obtain ⟨D, hD⟩ : ∃ D : List Int, D = [] := ⟨_, rfl⟩
      obtain ⟨E0, hE0⟩ : ∃ E : List Int, E = [] := ⟨_, rfl⟩
      have HD0 : Hid (D.length = 0) := by show _ = _; rw [hD]; rfl
      have X1 := fun W u => CX.out W u raw
      have Y1 := fun W u => CY.out W u raw
      have Z1 := fun W u h => CZ.out W u S D h (by rw [hD]; simp)
      rw [hR, if_neg (by decide), if_neg (by decide)] at X1 Y1
      rw [show arrOk S D = false by rw [hS, hD]; decide, if_neg (by decide), ← hE0] at Z1
      have XX : Hid (∀ (W : World) (u : Value), RawB W u raw → Calls Try.prog 17 #[u] W fun e w' => ∃ v, e = .returned (.tuple #[v, .bool false]) ∧ Arr W.heap.size w'.heap.size w' v S D ∧ Below W.heap.size W w') := by rw [hS, hD]; exact X1
      have YY : Hid (∀ (W : World) (u : Value), RawB W u raw → Calls Try.prog 15 #[u] W fun e w' => ∃ v, e = .returned (.tuple #[v, .bool false]) ∧ Arr W.heap.size w'.heap.size w' v S D ∧ Below W.heap.size W w') := by rw [hS, hD]; exact Y1
      have ZZ : Hid (∀ (W : World) (u : Value), ArrI W u S D → Calls Try.prog 9 #[u] W fun e w' => ∃ v, e = .returned (.tuple #[v, .bool false]) ∧ RawB w' v E0 ∧ Below W.heap.size W w') := Z1
      clear hS hD hE0 X1 Y1 Z1 hR CX CY CZ
      go_wp2_with fail
      refine (XX.out _ _ (R_7.out)).mono ?_
      rintro r w8 ⟨vX, rfl, ha, hb⟩
      obtain ⟨aX, cX, bX, eX, rfl, _, _, _, _⟩ := ha.arrI
      have X_8 : Hid (Arr w7.heap.size w8.heap.size w8 (.agg #[.slice aX S.length cX, .slice bX D.length eX]) S D) := ha.mono (by first | exact Nat.le_refl _ | simp | (simp; omega)) (Nat.le_refl _)
      clear ha
      have HB8 : Hid (Below w7.heap.size w7 w8) := hb
      have HT8 : Hid (Below w.heap.size w w8) := bTrans HT7.out HB8.out
      have SZ8 : Hid (w7.heap.size ≤ w8.heap.size) := HB8.out.size
      have QN_8 : Hid (Box w8 w1.heap.size (.slice a1 s.length c1) (.slice b1 d.length e1) 29) := QN_7.out.keep HB8.out
      have QK_8 : Hid (Box w8 w5.heap.size (.slice aK s.length cK) (.slice bK d.length eK) 29) := QK_7.out.keep HB8.out
      have R_8 : Hid (RawB w8 (.slice aR raw.length cR) raw) := R_7.out.keep HB8.out
      clear QN_7 QK_7 R_7 QNc0 QNc1 QKc0 QKc1 hb
      have QNc0 := QN_8.out.c0
      have QNc1 := QN_8.out.c1
      have QNd0 : ∀ o : Obj, (w8.alloc o).cell? ⟨w1.heap.size, 0, none⟩ = some (.slice a1 s.length c1) := fun o => (QN_8.out.keep (bAlloc (Below.refl _ _) o)).c0
      have QNd1 : ∀ o : Obj, (w8.alloc o).cell? ⟨w1.heap.size, 1, none⟩ = some (.slice b1 d.length e1) := fun o => (QN_8.out.keep (bAlloc (Below.refl _ _) o)).c1
      have QKc0 := QK_8.out.c0
      have QKc1 := QK_8.out.c1
      have QKd0 : ∀ o : Obj, (w8.alloc o).cell? ⟨w5.heap.size, 0, none⟩ = some (.slice aK s.length cK) := fun o => (QK_8.out.keep (bAlloc (Below.refl _ _) o)).c0
      have QKd1 : ∀ o : Obj, (w8.alloc o).cell? ⟨w5.heap.size, 1, none⟩ = some (.slice bK d.length eK) := fun o => (QK_8.out.keep (bAlloc (Below.refl _ _) o)).c1
      go_wp2_with fail
      refine (YY.out _ _ ((R_8.out).keep (bAlloc (Below.refl _ _) _))).mono ?_
      rintro r w9 ⟨vY, rfl, ha, hb⟩
      obtain ⟨aY, cY, bY, eY, rfl, _, _, _, _⟩ := ha.arrI
      have Y_9 : Hid (Arr (w8.heap.size + 1) w9.heap.size w9 (.agg #[.slice aY S.length cY, .slice bY D.length eY]) S D) := ha.mono (by first | exact Nat.le_refl _ | simp | (simp; omega)) (Nat.le_refl _)
      clear ha
      have HB9 : Hid (Below w8.heap.size w8 w9) := bTrans (bAlloc (Below.refl _ _) _) hb
      have HT9 : Hid (Below w.heap.size w w9) := bTrans HT8.out HB9.out
      have SZ9 : Hid (w8.heap.size ≤ w9.heap.size) := HB9.out.size
      have QN_9 : Hid (Box w9 w1.heap.size (.slice a1 s.length c1) (.slice b1 d.length e1) 29) := QN_8.out.keep HB9.out
      have QK_9 : Hid (Box w9 w5.heap.size (.slice aK s.length cK) (.slice bK d.length eK) 29) := QK_8.out.keep HB9.out
      have R_9 : Hid (RawB w9 (.slice aR raw.length cR) raw) := R_8.out.keep HB9.out
      have X_9 : Hid (Arr w7.heap.size w8.heap.size w9 (.agg #[.slice aX S.length cX, .slice bX D.length eX]) S D) := X_8.out.keep HB9.out
      have QX_9 : Hid (Box w9 w8.heap.size (.slice aX S.length cX) (.slice bX D.length eX) 29) := (box_new w8 _ _ _).keep hb
      have LTQX : Hid (w8.heap.size < w9.heap.size) := QX_9.out.lt
      clear QN_8 QK_8 R_8 X_8 QNc0 QNc1 QNd0 QNd1 QKc0 QKc1 QKd0 QKd1 hb
      have QNc0 := QN_9.out.c0
      have QNc1 := QN_9.out.c1
      have QNd0 : ∀ o : Obj, (w9.alloc o).cell? ⟨w1.heap.size, 0, none⟩ = some (.slice a1 s.length c1) := fun o => (QN_9.out.keep (bAlloc (Below.refl _ _) o)).c0
      have QNd1 : ∀ o : Obj, (w9.alloc o).cell? ⟨w1.heap.size, 1, none⟩ = some (.slice b1 d.length e1) := fun o => (QN_9.out.keep (bAlloc (Below.refl _ _) o)).c1
      have QKc0 := QK_9.out.c0
      have QKc1 := QK_9.out.c1
      have QKd0 : ∀ o : Obj, (w9.alloc o).cell? ⟨w5.heap.size, 0, none⟩ = some (.slice aK s.length cK) := fun o => (QK_9.out.keep (bAlloc (Below.refl _ _) o)).c0
      have QKd1 : ∀ o : Obj, (w9.alloc o).cell? ⟨w5.heap.size, 1, none⟩ = some (.slice bK d.length eK) := fun o => (QK_9.out.keep (bAlloc (Below.refl _ _) o)).c1
      have QXc0 := QX_9.out.c0
      have QXc1 := QX_9.out.c1
      have QXd0 : ∀ o : Obj, (w9.alloc o).cell? ⟨w8.heap.size, 0, none⟩ = some (.slice aX S.length cX) := fun o => (QX_9.out.keep (bAlloc (Below.refl _ _) o)).c0
      have QXd1 : ∀ o : Obj, (w9.alloc o).cell? ⟨w8.heap.size, 1, none⟩ = some (.slice bX D.length eX) := fun o => (QX_9.out.keep (bAlloc (Below.refl _ _) o)).c1
      go_wp2_with fail
      refine (ZZ.out _ _ ((X_9.out.arrI).keep (bAlloc (Below.refl _ _) _))).mono ?_
      rintro r w10 ⟨vZ, rfl, ha, hb⟩
      have ha1 := ha
      obtain ⟨aZ, cZ, rfl, _⟩ := ha1
      have Z_10 : Hid (RawB w10 (.slice aZ E0.length cZ) E0) := ha
      clear ha
      have HB10 : Hid (Below w9.heap.size w9 w10) := bTrans (bAlloc (Below.refl _ _) _) hb
      have HT10 : Hid (Below w.heap.size w w10) := bTrans HT9.out HB10.out
      have SZ10 : Hid (w9.heap.size ≤ w10.heap.size) := HB10.out.size
      have QN_10 : Hid (Box w10 w1.heap.size (.slice a1 s.length c1) (.slice b1 d.length e1) 29) := QN_9.out.keep HB10.out
      have QK_10 : Hid (Box w10 w5.heap.size (.slice aK s.length cK) (.slice bK d.length eK) 29) := QK_9.out.keep HB10.out
      have QX_10 : Hid (Box w10 w8.heap.size (.slice aX S.length cX) (.slice bX D.length eX) 29) := QX_9.out.keep HB10.out
      have R_10 : Hid (RawB w10 (.slice aR raw.length cR) raw) := R_9.out.keep HB10.out
      have X_10 : Hid (Arr w7.heap.size w8.heap.size w10 (.agg #[.slice aX S.length cX, .slice bX D.length eX]) S D) := X_9.out.keep HB10.out
      have Y_10 : Hid (Arr (w8.heap.size + 1) w9.heap.size w10 (.agg #[.slice aY S.length cY, .slice bY D.length eY]) S D) := Y_9.out.keep HB10.out
      have QY_10 : Hid (Box w10 w9.heap.size (.slice aY S.length cY) (.slice bY D.length eY) 29) := (box_new w9 _ _ _).keep hb
      have LTQY : Hid (w9.heap.size < w10.heap.size) := QY_10.out.lt
      clear QN_9 QK_9 QX_9 R_9 X_9 Y_9 QNc0 QNc1 QNd0 QNd1 QKc0 QKc1 QKd0 QKd1 QXc0 QXc1 QXd0 QXd1 hb
      have QNc0 := QN_10.out.c0
      have QNc1 := QN_10.out.c1
      have QKc0 := QK_10.out.c0
      have QKc1 := QK_10.out.c1
      have QXc0 := QX_10.out.c0
      have QXc1 := QX_10.out.c1
      have QYc0 := QY_10.out.c0
      have QYc1 := QY_10.out.c1
      have e0 : ((D.length : Int) == 0) = true := by rw [HD0.out]; rfl
      have e1 : ((D.length : Int) = 0) := by rw [HD0.out]; rfl
      go_wp2
      go_ret
      exact ⟨rfl, HT10.out⟩
  · have hV : arrOk s d = false := by simpa using hV
    obtain ⟨P, hP⟩ : ∃ P : List Int, P = [] := ⟨_, rfl⟩
    have Z0 := fun W u h => CZ.out W u s d h Ld.out
    rw [hV, if_neg (by decide), ← hP] at Z0
    rw [hV] at CS CI
    have Z9 : Hid (∀ (W : World) (u : Value), ArrI W u s d → Calls Try.prog 9 #[u] W fun e w' => ∃ v, e = .returned (.tuple #[v, .bool false]) ∧ RawB w' v P ∧ Below W.heap.size W w') := Z0
    clear hP Z0 hV SA
    go_wp2_with fail
    refine (Z9.out _ _ ((N_1.out.arrI).keep (bAlloc (Below.refl _ _) _))).mono ?_
    rintro r w2 ⟨vP, rfl, ha, hb⟩
    have ha1 := ha
    obtain ⟨aP, cP, rfl, _⟩ := ha1
    have P_2 : Hid (RawB w2 (.slice aP P.length cP) P) := ha
    clear ha
    have HB2 : Hid (Below w1.heap.size w1 w2) := bTrans (bAlloc (Below.refl _ _) _) hb
    have HT2 : Hid (Below w.heap.size w w2) := bTrans HT1.out HB2.out
    have SZ2 : Hid (w1.heap.size ≤ w2.heap.size) := HB2.out.size
    have N_2 : Hid (Arr w.heap.size w1.heap.size w2 (.agg #[.slice a1 s.length c1, .slice b1 d.length e1]) s d) := N_1.out.keep HB2.out
    have QN_2 : Hid (Box w2 w1.heap.size (.slice a1 s.length c1) (.slice b1 d.length e1) 29) := (box_new w1 _ _ _).keep hb
    have LTQN : Hid (w1.heap.size < w2.heap.size) := QN_2.out.lt
    clear N_1 hb
    have QNc0 := QN_2.out.c0
    have QNc1 := QN_2.out.c1
    go_wp2_with fail
    refine (CS.out _ _ (N_2.out.arrI)).mono ?_
    rintro r w3 ⟨rfl, hb⟩
    have HB3 : Hid (Below w2.heap.size w2 w3) := hb
    have HT3 : Hid (Below w.heap.size w w3) := bTrans HT2.out HB3.out
    have SZ3 : Hid (w2.heap.size ≤ w3.heap.size) := HB3.out.size
    have QN_3 : Hid (Box w3 w1.heap.size (.slice a1 s.length c1) (.slice b1 d.length e1) 29) := QN_2.out.keep HB3.out
    have N_3 : Hid (Arr w.heap.size w1.heap.size w3 (.agg #[.slice a1 s.length c1, .slice b1 d.length e1]) s d) := N_2.out.keep HB3.out
    have P_3 : Hid (RawB w3 (.slice aP P.length cP) P) := P_2.out.keep HB3.out
    clear QN_2 N_2 P_2 QNc0 QNc1 hb
    have QNc0 := QN_3.out.c0
    have QNc1 := QN_3.out.c1
    go_wp2_with fail
    refine (CI.out _ _ (N_3.out.arrI)).mono ?_
    rintro r w4 ⟨rfl, hb⟩
    have HB4 : Hid (Below w3.heap.size w3 w4) := hb
    have HT4 : Hid (Below w.heap.size w w4) := bTrans HT3.out HB4.out
    have SZ4 : Hid (w3.heap.size ≤ w4.heap.size) := HB4.out.size
    have QN_4 : Hid (Box w4 w1.heap.size (.slice a1 s.length c1) (.slice b1 d.length e1) 29) := QN_3.out.keep HB4.out
    have N_4 : Hid (Arr w.heap.size w1.heap.size w4 (.agg #[.slice a1 s.length c1, .slice b1 d.length e1]) s d) := N_3.out.keep HB4.out
    have P_4 : Hid (RawB w4 (.slice aP P.length cP) P) := P_3.out.keep HB4.out
    clear QN_3 N_3 P_3 QNc0 QNc1 hb
    have QNc0 := QN_4.out.c0
    have QNc1 := QN_4.out.c1
    go_wp2_with fail
    refine (drawArrayRead_spec (srcKeep HS.out HT4.out) hb20).mono ?_
    rintro r w5 ⟨vR, raw, rfl, ha, hb⟩
    have ha1 := ha
    obtain ⟨aR, cR, rfl, _⟩ := ha1
    have R_5 : Hid (RawB w5 (.slice aR raw.length cR) raw) := ha
    clear ha
    have HB5 : Hid (Below w4.heap.size w4 w5) := hb
    have HT5 : Hid (Below w.heap.size w w5) := bTrans HT4.out HB5.out
    have SZ5 : Hid (w4.heap.size ≤ w5.heap.size) := HB5.out.size
    have QN_5 : Hid (Box w5 w1.heap.size (.slice a1 s.length c1) (.slice b1 d.length e1) 29) := QN_4.out.keep HB5.out
    clear QN_4 QNc0 QNc1 hb
    have QNc0 := QN_5.out.c0
    have QNc1 := QN_5.out.c1
    by_cases hR : ardB raw = true
    · have HR0 : Hid (0 < raw.length) := ardB_pos hR
      obtain ⟨hok, hap⟩ := read_apack (R_5.out.isB) hR
      obtain ⟨S, hS⟩ : ∃ S, S = shB raw := ⟨_, rfl⟩
      obtain ⟨D, hD⟩ : ∃ D, D = dtB raw := ⟨_, rfl⟩
      rw [← hS, ← hD] at hok hap
      have LD : Hid (D.length ≤ 1048576) := by show _ ≤ _; have := arrOk_len hok; omega
      have X1 := fun W u => CX.out W u raw
      have Y1 := fun W u => CY.out W u raw
      have Z1 := fun W u h => CZ.out W u S D h LD.out
      rw [hR, if_pos rfl, if_pos rfl, ← hS, ← hD] at X1 Y1
      rw [hok, if_pos rfl, hap] at Z1
      have XX : Hid (∀ (W : World) (u : Value), RawB W u raw → Calls Try.prog 17 #[u] W fun e w' => ∃ v, e = .returned (.tuple #[v, .bool true]) ∧ Arr W.heap.size w'.heap.size w' v S D ∧ Below W.heap.size W w') := X1
      have YY : Hid (∀ (W : World) (u : Value), RawB W u raw → Calls Try.prog 15 #[u] W fun e w' => ∃ v, e = .returned (.tuple #[v, .bool true]) ∧ Arr W.heap.size w'.heap.size w' v S D ∧ Below W.heap.size W w') := Y1
      have ZZ : Hid (∀ (W : World) (u : Value), ArrI W u S D → Calls Try.prog 9 #[u] W fun e w' => ∃ v, e = .returned (.tuple #[v, .bool true]) ∧ RawB w' v raw ∧ Below W.heap.size W w') := Z1
      clear hok hap hS hD X1 Y1 Z1 hR CX CY CZ
      go_wp2_with fail
      refine (XX.out _ _ (R_5.out)).mono ?_
      rintro r w6 ⟨vX, rfl, ha, hb⟩
      obtain ⟨aX, cX, bX, eX, rfl, _, _, _, _⟩ := ha.arrI
      have X_6 : Hid (Arr w5.heap.size w6.heap.size w6 (.agg #[.slice aX S.length cX, .slice bX D.length eX]) S D) := ha.mono (by first | exact Nat.le_refl _ | simp | (simp; omega)) (Nat.le_refl _)
      clear ha
      have HB6 : Hid (Below w5.heap.size w5 w6) := hb
      have HT6 : Hid (Below w.heap.size w w6) := bTrans HT5.out HB6.out
      have SZ6 : Hid (w5.heap.size ≤ w6.heap.size) := HB6.out.size
      have QN_6 : Hid (Box w6 w1.heap.size (.slice a1 s.length c1) (.slice b1 d.length e1) 29) := QN_5.out.keep HB6.out
      have R_6 : Hid (RawB w6 (.slice aR raw.length cR) raw) := R_5.out.keep HB6.out
      clear QN_5 R_5 QNc0 QNc1 hb
      have QNc0 := QN_6.out.c0
      have QNc1 := QN_6.out.c1
      have QNd0 : ∀ o : Obj, (w6.alloc o).cell? ⟨w1.heap.size, 0, none⟩ = some (.slice a1 s.length c1) := fun o => (QN_6.out.keep (bAlloc (Below.refl _ _) o)).c0
      have QNd1 : ∀ o : Obj, (w6.alloc o).cell? ⟨w1.heap.size, 1, none⟩ = some (.slice b1 d.length e1) := fun o => (QN_6.out.keep (bAlloc (Below.refl _ _) o)).c1
      go_wp2_with fail
      refine (YY.out _ _ ((R_6.out).keep (bAlloc (Below.refl _ _) _))).mono ?_
      rintro r w7 ⟨vY, rfl, ha, hb⟩
      obtain ⟨aY, cY, bY, eY, rfl, _, _, _, _⟩ := ha.arrI
      have Y_7 : Hid (Arr (w6.heap.size + 1) w7.heap.size w7 (.agg #[.slice aY S.length cY, .slice bY D.length eY]) S D) := ha.mono (by first | exact Nat.le_refl _ | simp | (simp; omega)) (Nat.le_refl _)
      clear ha
      have HB7 : Hid (Below w6.heap.size w6 w7) := bTrans (bAlloc (Below.refl _ _) _) hb
      have HT7 : Hid (Below w.heap.size w w7) := bTrans HT6.out HB7.out
      have SZ7 : Hid (w6.heap.size ≤ w7.heap.size) := HB7.out.size
      have QN_7 : Hid (Box w7 w1.heap.size (.slice a1 s.length c1) (.slice b1 d.length e1) 29) := QN_6.out.keep HB7.out
      have R_7 : Hid (RawB w7 (.slice aR raw.length cR) raw) := R_6.out.keep HB7.out
      have X_7 : Hid (Arr w5.heap.size w6.heap.size w7 (.agg #[.slice aX S.length cX, .slice bX D.length eX]) S D) := X_6.out.keep HB7.out
      have QX_7 : Hid (Box w7 w6.heap.size (.slice aX S.length cX) (.slice bX D.length eX) 29) := (box_new w6 _ _ _).keep hb
      have LTQX : Hid (w6.heap.size < w7.heap.size) := QX_7.out.lt
      clear QN_6 R_6 X_6 QNc0 QNc1 QNd0 QNd1 hb
      have QNc0 := QN_7.out.c0
      have QNc1 := QN_7.out.c1
      have QNd0 : ∀ o : Obj, (w7.alloc o).cell? ⟨w1.heap.size, 0, none⟩ = some (.slice a1 s.length c1) := fun o => (QN_7.out.keep (bAlloc (Below.refl _ _) o)).c0
      have QNd1 : ∀ o : Obj, (w7.alloc o).cell? ⟨w1.heap.size, 1, none⟩ = some (.slice b1 d.length e1) := fun o => (QN_7.out.keep (bAlloc (Below.refl _ _) o)).c1
      have QXc0 := QX_7.out.c0
      have QXc1 := QX_7.out.c1
      have QXd0 : ∀ o : Obj, (w7.alloc o).cell? ⟨w6.heap.size, 0, none⟩ = some (.slice aX S.length cX) := fun o => (QX_7.out.keep (bAlloc (Below.refl _ _) o)).c0
      have QXd1 : ∀ o : Obj, (w7.alloc o).cell? ⟨w6.heap.size, 1, none⟩ = some (.slice bX D.length eX) := fun o => (QX_7.out.keep (bAlloc (Below.refl _ _) o)).c1
      go_wp2_with fail
      refine (ZZ.out _ _ ((X_7.out.arrI).keep (bAlloc (Below.refl _ _) _))).mono ?_
      rintro r w8 ⟨vZ, rfl, ha, hb⟩
      have ha1 := ha
      obtain ⟨aZ, cZ, rfl, _⟩ := ha1
      have Z_8 : Hid (RawB w8 (.slice aZ raw.length cZ) raw) := ha
      clear ha
      have HB8 : Hid (Below w7.heap.size w7 w8) := bTrans (bAlloc (Below.refl _ _) _) hb
      have HT8 : Hid (Below w.heap.size w w8) := bTrans HT7.out HB8.out
      have SZ8 : Hid (w7.heap.size ≤ w8.heap.size) := HB8.out.size
      have QN_8 : Hid (Box w8 w1.heap.size (.slice a1 s.length c1) (.slice b1 d.length e1) 29) := QN_7.out.keep HB8.out
      have QX_8 : Hid (Box w8 w6.heap.size (.slice aX S.length cX) (.slice bX D.length eX) 29) := QX_7.out.keep HB8.out
      have R_8 : Hid (RawB w8 (.slice aR raw.length cR) raw) := R_7.out.keep HB8.out
      have X_8 : Hid (Arr w5.heap.size w6.heap.size w8 (.agg #[.slice aX S.length cX, .slice bX D.length eX]) S D) := X_7.out.keep HB8.out
      have Y_8 : Hid (Arr (w6.heap.size + 1) w7.heap.size w8 (.agg #[.slice aY S.length cY, .slice bY D.length eY]) S D) := Y_7.out.keep HB8.out
      have QY_8 : Hid (Box w8 w7.heap.size (.slice aY S.length cY) (.slice bY D.length eY) 29) := (box_new w7 _ _ _).keep hb
      have LTQY : Hid (w7.heap.size < w8.heap.size) := QY_8.out.lt
      clear QN_7 QX_7 R_7 X_7 Y_7 QNc0 QNc1 QNd0 QNd1 QXc0 QXc1 QXd0 QXd1 hb
      have QNc0 := QN_8.out.c0
      have QNc1 := QN_8.out.c1
      have QXc0 := QX_8.out.c0
      have QXc1 := QX_8.out.c1
      have QYc0 := QY_8.out.c0
      have QYc1 := QY_8.out.c1
      have v1 : (convert 26 9 (.slice aZ raw.length cZ)).run Try.prog w8 = .ok (.string (strOfNums raw)) w8 := Z_8.out.conv HR0.out
      have v2 : (convert 26 9 (.slice aR raw.length cR)).run Try.prog w8 = .ok (.string (strOfNums raw)) w8 := R_8.out.conv HR0.out
      go_wp2
      go_ret
      exact ⟨rfl, HT8.out⟩
    · have hR : ardB raw = false := by simpa using hR
      obtain ⟨S, hS⟩ : ∃ S : List Int, S = [] := ⟨_, rfl⟩
      obtain ⟨D, hD⟩ : ∃ D : List Int, D = [] := ⟨_, rfl⟩
      obtain ⟨E0, hE0⟩ : ∃ E : List Int, E = [] := ⟨_, rfl⟩
      have HD0 : Hid (D.length = 0) := by show _ = _; rw [hD]; rfl
      have X1 := fun W u => CX.out W u raw
      have Y1 := fun W u => CY.out W u raw
      have Z1 := fun W u h => CZ.out W u S D h (by rw [hD]; simp)
      rw [hR, if_neg (by decide), if_neg (by decide)] at X1 Y1
      rw [show arrOk S D = false by rw [hS, hD]; decide, if_neg (by decide), ← hE0] at Z1
      have XX : Hid (∀ (W : World) (u : Value), RawB W u raw → Calls Try.prog 17 #[u] W fun e w' => ∃ v, e = .returned (.tuple #[v, .bool false]) ∧ Arr W.heap.size w'.heap.size w' v S D ∧ Below W.heap.size W w') := by rw [hS, hD]; exact X1
      have YY : Hid (∀ (W : World) (u : Value), RawB W u raw → Calls Try.prog 15 #[u] W fun e w' => ∃ v, e = .returned (.tuple #[v, .bool false]) ∧ Arr W.heap.size w'.heap.size w' v S D ∧ Below W.heap.size W w') := by rw [hS, hD]; exact Y1
      have ZZ : Hid (∀ (W : World) (u : Value), ArrI W u S D → Calls Try.prog 9 #[u] W fun e w' => ∃ v, e = .returned (.tuple #[v, .bool false]) ∧ RawB w' v E0 ∧ Below W.heap.size W w') := Z1
      clear hS hD hE0 X1 Y1 Z1 hR CX CY CZ
      go_wp2_with fail
      refine (XX.out _ _ (R_5.out)).mono ?_
      rintro r w6 ⟨vX, rfl, ha, hb⟩
      obtain ⟨aX, cX, bX, eX, rfl, _, _, _, _⟩ := ha.arrI
      have X_6 : Hid (Arr w5.heap.size w6.heap.size w6 (.agg #[.slice aX S.length cX, .slice bX D.length eX]) S D) := ha.mono (by first | exact Nat.le_refl _ | simp | (simp; omega)) (Nat.le_refl _)
      clear ha
      have HB6 : Hid (Below w5.heap.size w5 w6) := hb
      have HT6 : Hid (Below w.heap.size w w6) := bTrans HT5.out HB6.out
      have SZ6 : Hid (w5.heap.size ≤ w6.heap.size) := HB6.out.size
      have QN_6 : Hid (Box w6 w1.heap.size (.slice a1 s.length c1) (.slice b1 d.length e1) 29) := QN_5.out.keep HB6.out
      have R_6 : Hid (RawB w6 (.slice aR raw.length cR) raw) := R_5.out.keep HB6.out
      clear QN_5 R_5 QNc0 QNc1 hb
      have QNc0 := QN_6.out.c0
      have QNc1 := QN_6.out.c1
      have QNd0 : ∀ o : Obj, (w6.alloc o).cell? ⟨w1.heap.size, 0, none⟩ = some (.slice a1 s.length c1) := fun o => (QN_6.out.keep (bAlloc (Below.refl _ _) o)).c0
      have QNd1 : ∀ o : Obj, (w6.alloc o).cell? ⟨w1.heap.size, 1, none⟩ = some (.slice b1 d.length e1) := fun o => (QN_6.out.keep (bAlloc (Below.refl _ _) o)).c1
      go_wp2_with fail
      refine (YY.out _ _ ((R_6.out).keep (bAlloc (Below.refl _ _) _))).mono ?_
      rintro r w7 ⟨vY, rfl, ha, hb⟩
      obtain ⟨aY, cY, bY, eY, rfl, _, _, _, _⟩ := ha.arrI
      have Y_7 : Hid (Arr (w6.heap.size + 1) w7.heap.size w7 (.agg #[.slice aY S.length cY, .slice bY D.length eY]) S D) := ha.mono (by first | exact Nat.le_refl _ | simp | (simp; omega)) (Nat.le_refl _)
      clear ha
      have HB7 : Hid (Below w6.heap.size w6 w7) := bTrans (bAlloc (Below.refl _ _) _) hb
      have HT7 : Hid (Below w.heap.size w w7) := bTrans HT6.out HB7.out
      have SZ7 : Hid (w6.heap.size ≤ w7.heap.size) := HB7.out.size
      have QN_7 : Hid (Box w7 w1.heap.size (.slice a1 s.length c1) (.slice b1 d.length e1) 29) := QN_6.out.keep HB7.out
      have R_7 : Hid (RawB w7 (.slice aR raw.length cR) raw) := R_6.out.keep HB7.out
      have X_7 : Hid (Arr w5.heap.size w6.heap.size w7 (.agg #[.slice aX S.length cX, .slice bX D.length eX]) S D) := X_6.out.keep HB7.out
      have QX_7 : Hid (Box w7 w6.heap.size (.slice aX S.length cX) (.slice bX D.length eX) 29) := (box_new w6 _ _ _).keep hb
      have LTQX : Hid (w6.heap.size < w7.heap.size) := QX_7.out.lt
      clear QN_6 R_6 X_6 QNc0 QNc1 QNd0 QNd1 hb
      have QNc0 := QN_7.out.c0
      have QNc1 := QN_7.out.c1
      have QNd0 : ∀ o : Obj, (w7.alloc o).cell? ⟨w1.heap.size, 0, none⟩ = some (.slice a1 s.length c1) := fun o => (QN_7.out.keep (bAlloc (Below.refl _ _) o)).c0
      have QNd1 : ∀ o : Obj, (w7.alloc o).cell? ⟨w1.heap.size, 1, none⟩ = some (.slice b1 d.length e1) := fun o => (QN_7.out.keep (bAlloc (Below.refl _ _) o)).c1
      have QXc0 := QX_7.out.c0
      have QXc1 := QX_7.out.c1
      have QXd0 : ∀ o : Obj, (w7.alloc o).cell? ⟨w6.heap.size, 0, none⟩ = some (.slice aX S.length cX) := fun o => (QX_7.out.keep (bAlloc (Below.refl _ _) o)).c0
      have QXd1 : ∀ o : Obj, (w7.alloc o).cell? ⟨w6.heap.size, 1, none⟩ = some (.slice bX D.length eX) := fun o => (QX_7.out.keep (bAlloc (Below.refl _ _) o)).c1
      go_wp2_with fail
      refine (ZZ.out _ _ ((X_7.out.arrI).keep (bAlloc (Below.refl _ _) _))).mono ?_
      rintro r w8 ⟨vZ, rfl, ha, hb⟩
      have ha1 := ha
      obtain ⟨aZ, cZ, rfl, _⟩ := ha1
      have Z_8 : Hid (RawB w8 (.slice aZ E0.length cZ) E0) := ha
      clear ha
      have HB8 : Hid (Below w7.heap.size w7 w8) := bTrans (bAlloc (Below.refl _ _) _) hb
      have HT8 : Hid (Below w.heap.size w w8) := bTrans HT7.out HB8.out
      have SZ8 : Hid (w7.heap.size ≤ w8.heap.size) := HB8.out.size
      have QN_8 : Hid (Box w8 w1.heap.size (.slice a1 s.length c1) (.slice b1 d.length e1) 29) := QN_7.out.keep HB8.out
      have QX_8 : Hid (Box w8 w6.heap.size (.slice aX S.length cX) (.slice bX D.length eX) 29) := QX_7.out.keep HB8.out
      have R_8 : Hid (RawB w8 (.slice aR raw.length cR) raw) := R_7.out.keep HB8.out
      have X_8 : Hid (Arr w5.heap.size w6.heap.size w8 (.agg #[.slice aX S.length cX, .slice bX D.length eX]) S D) := X_7.out.keep HB8.out
      have Y_8 : Hid (Arr (w6.heap.size + 1) w7.heap.size w8 (.agg #[.slice aY S.length cY, .slice bY D.length eY]) S D) := Y_7.out.keep HB8.out
      have QY_8 : Hid (Box w8 w7.heap.size (.slice aY S.length cY) (.slice bY D.length eY) 29) := (box_new w7 _ _ _).keep hb
      have LTQY : Hid (w7.heap.size < w8.heap.size) := QY_8.out.lt
      clear QN_7 QX_7 R_7 X_7 Y_7 QNc0 QNc1 QNd0 QNd1 QXc0 QXc1 QXd0 QXd1 hb
      have QNc0 := QN_8.out.c0
      have QNc1 := QN_8.out.c1
      have QXc0 := QX_8.out.c0
      have QXc1 := QX_8.out.c1
      have QYc0 := QY_8.out.c0
      have QYc1 := QY_8.out.c1
      have e0 : ((D.length : Int) == 0) = true := by rw [HD0.out]; rfl
      have e1 : ((D.length : Int) = 0) := by rw [HD0.out]; rfl
      go_wp2
      go_ret
      exact ⟨rfl, HT8.out⟩

/-! ### THE ROW's STEP: WRITTEN OUT: LEAVE IT -/
set_option maxRecDepth 100000 in
theorem lifted (os : Os) (started : os.Started) (H : Type) (enc : TypeId × Value → H) :
    ReturnsInHanded {} Try.checked os 5 .any (Rows.fnArrayBytesSpec.pre6 enc Try.prog Try.f5 Rows.fnArrayBytesRow.domain false) (Rows.fnArrayBytesSpec.post enc Try.prog Try.f5 false true false false) := by
  refine returnsInHanded_of_change (C := Try.checked) own started (by kernel_rfl) Try.func5
    (ChangeSpec.witness6 (enc := enc) (C := Try.checked) false ⟨#[], #[.slice none 0 0], []⟩ 8 (by kernel_rfl) (by kernel_rfl) (by kernel_rfl) (by kernel_rfl)) ?_
  intro W base args ds gs before hval0 hW hcnd _
  have hval : ∀ (j : Nat) t v, Try.f5.params[j]? = some t → args[j]? = some v → Value.okWide Try.prog W .any base t v := hval0
  have hW' := hW
  obtain ⟨p, q, hA0, hV, rfl, hfz, hnd⟩ := hW
  have hA : DataW.TrodAll enc Try.prog W 0 (fun _ => true) true Try.f5.params.toList args.toList ds p := hA0
  rw [Try.params5] at hA hval
  obtain ⟨v0, vs0, d0, ds0, p0, q0, hargs, rfl, rfl, h0, r0⟩ := trodAll_cons hA
  obtain ⟨rfl, rfl, rfl⟩ := trodAll_nil r0
  obtain rfl : args = #[v0] := by cases args; simp_all
  obtain ⟨rfl, rfl⟩ := trodVars_none hV
  obtain ⟨a0, len0, cap0, rfl⟩ := okWide_slice Try.underlying26 (hval 0 26 v0 rfl rfl)
  have k0 := h0
  have lt0 : ∀ x ∈ p0, x.block < W.heap.size := by obtain ⟨m, hm⟩ := k0; exact DataW.trod_lt m _ _ _ hm
  obtain ⟨z0, w0⟩ : ∃ zs, IsRow .u8 W a0 len0 cap0 zs := by
    obtain ⟨fuel, hf⟩ := h0
    rcases open_ints Try.underlying26 Try.underlying5 (by kernel_rfl) hf with ⟨hcs, _⟩ | ⟨x, l, c, zs, hcs, _, hl, hm, hz, _, hcell, hwz⟩
    · simp [Value.cells] at hcs
      obtain ⟨rfl, rfl, rfl⟩ := hcs
      exact ⟨[], .inl ⟨rfl, rfl, rfl, rfl⟩⟩
    · simp [Value.cells] at hcs
      obtain ⟨rfl, rfl, rfl⟩ := hcs
      exact ⟨zs, .inr ⟨_, rfl, hl, hm, by simpa using hz, hcell, hwz⟩⟩
  clear hA0 hval0
  refine (walk a0 len0 cap0 z0 W w0).mono fun e W' ⟨he, bel⟩ => ?_
  subst he
  exact ⟨_, rfl, _, _, _, [], _, [], hW', trodAll_mk1 (shut_bool Try.underlying4 _), (trodAll_cons_mk (Below.trod laidOut (by kernel_rfl) (of_decide_eq_true (by kernel_rfl)) k0 bel lt0) trodAll_mk0), rfl, bel.frame _, fun h => by cases h⟩

theorem over : Rows.fnArrayBytesRow.holds Try.pinned (OpenSpec.ofChange Rows.fnArrayBytesSpec) :=
  OpenClaim.holds_of_wide 5 Try.f5 rfl rfl rfl rfl rfl rfl rfl ⟨rfl, rfl, rfl, rfl, rfl⟩ rfl rfl rfl rfl rfl (by kernel_rfl) Try.func5 (by kernel_rfl)
    (of_decide_eq_true (by kernel_rfl)) (by unfold Func.isWrapper; first | (rw [if_pos (by decide +kernel)]; kernel_rfl) | (rw [if_neg (by decide +kernel)]; exact ⟨rfl, rfl⟩))
    (fun os started H enc _ => lifted os started H enc)

/-- ████ THE STATEMENT ████ -/
theorem proved : Rows.FnArrayBytesSaid := over
end Go.Proofs.Ytonkiipdobpfgaa.fnArrayBytes
namespace Go.Proofs.Ytonkiipdobpfgaa
theorem fnArrayBytes_holds : Rows.FnArrayBytesSaid := fnArrayBytes.proved
#print axioms fnArrayBytes_holds
end Go.Proofs.Ytonkiipdobpfgaa
