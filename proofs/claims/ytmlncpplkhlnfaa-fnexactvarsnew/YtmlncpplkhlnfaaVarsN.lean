/-
  Walks: new letters; letters with nothing in them, held against each other, marked, and looked at.
-/
import Derived.Test.YtmlncpplkhlnfaaArr
import Derived.Test.YtmlncpplkhlnfaaMarks
import Derived.Test.YtmlncpplkhlnfaaLaw3
import Derived.Deep.RegionHeld3
import Derived.Deep.Cut
namespace Go.Proofs.Ytmlncpplkhlnfaa
open Go.RowKit
set_option linter.unusedVariables false
set_option linter.unusedSimpArgs false
/-- A block with 26 letters, set or not, with nothing in them. -/
def VarB (w : World) (o : Nat) (bs : Nat → Bool) : Prop :=
  ∃ A : Array Value, w.heap[o]? = some (.cells A 40 (0, 0)) ∧ A.size = 78 ∧ ∀ i, i < 26 → A[i * 3]? = some (.bool (bs i)) ∧ A[i * 3 + 1]? = some (.slice none 0 0) ∧ A[i * 3 + 2]? = some (.slice none 0 0)
namespace VarB
variable {w w' : World} {o : Nat} {bs : Nat → Bool}
theorem lt (h : VarB w o bs) : o < w.heap.size := by obtain ⟨A, h1, _⟩ := h; exact lt_of_heapA h1
theorem keep (h : VarB w o bs) (hb : Below w.heap.size w w') : VarB w' o bs := by
  have hl := h.lt
  obtain ⟨A, h1, h2⟩ := h
  exact ⟨A, by rw [hb.block o hl]; exact h1, h2⟩
theorem c0 (h : VarB w o bs) {i : Nat} (hi : i < 26) : w.cell? ⟨o, i * 3, none⟩ = some (.bool (bs i)) := by
  obtain ⟨A, h1, _, h3⟩ := h; exact cell_at h1 (h3 i hi).1
theorem c1 (h : VarB w o bs) {i : Nat} (hi : i < 26) : w.cell? ⟨o, i * 3 + 1, none⟩ = some (.slice none 0 0) := by
  obtain ⟨A, h1, _, h3⟩ := h; exact cell_at h1 (h3 i hi).2.1
theorem c2 (h : VarB w o bs) {i : Nat} (hi : i < 26) : w.cell? ⟨o, i * 3 + 2, none⟩ = some (.slice none 0 0) := by
  obtain ⟨A, h1, _, h3⟩ := h; exact cell_at h1 (h3 i hi).2.2
theorem free (h : VarB w o bs) (k : Nat) : w.frozen? ⟨o, k, none⟩ = false := by obtain ⟨A, h1, _⟩ := h; exact free_at h1 k
theorem set (h : VarB w o bs) {i : Nat} (hi : i < 26) (b : Bool) : VarB (w.setCell ⟨o, i * 3, none⟩ (.bool b)) o (fun k => if k = i then b else bs k) := by
  obtain ⟨A, h1, h2, h3⟩ := h
  refine ⟨_, heap_setCell_same w o (i * 3) _ _ (.bool b) h1, by simpa using h2, fun k hk => ?_⟩
  obtain ⟨q1, q2, q3⟩ := h3 k hk
  refine ⟨?_, ?_, ?_⟩
  · show _ = some (Value.bool (if k = i then b else bs k))
    by_cases e : k = i
    · rw [if_pos e, e]
      rw [Array.getElem?_setIfInBounds, if_pos rfl, if_pos (by omega)]
    · rw [if_neg e]
      have : i * 3 ≠ k * 3 := by omega
      simp [Array.getElem?_setIfInBounds, this, q1]
  · have : i * 3 ≠ k * 3 + 1 := by omega
    simp [Array.getElem?_setIfInBounds, this, q2]
  · have : i * 3 ≠ k * 3 + 2 := by omega
    simp [Array.getElem?_setIfInBounds, this, q3]
end VarB
theorem info_var : (Try.prog.info? 40).map (fun i => (i.zero, i.size, i.bytes)) = some (some (.agg #[.bool false, .slice none 0 0, .slice none 0 0]), 3, 56) := by kernel_rfl
theorem make_vars (w : World) : ∃ w', (Instr.makeSlice 25 (.int .i64 26) (.int .i64 26)).run Try.prog w = .ok (.slice (some ⟨w.heap.size, 0, none⟩) 26 26) w' ∧ VarB w' w.heap.size (fun _ => false) ∧ Below w.heap.size w w' := by
  have hi := info_var
  cases hq : Try.prog.info? 40 with
  | none => rw [hq] at hi; cases hi
  | some i =>
    rw [hq] at hi
    simp at hi
    obtain ⟨z1, z2, z3⟩ := hi
    have q := run_make (P := Try.prog) w 25 40 i _ Try.underlying25 hq z1 .i64 .i64 26 26 (by omega) (by omega) (by rw [z3]; omega) (by omega)
    rw [z2] at q
    refine ⟨_, q, ⟨_, heap_alloc_new w _, by rw [size_madeCells]; rfl, fun i hi => ?_⟩, bAlloc (Below.refl _ _) _⟩
    have e0 : (Value.agg #[.bool false, .slice none 0 0, .slice none 0 0]).cells = #[.bool false, .slice none 0 0, .slice none 0 0] := by rfl
    have g : ∀ k, k < 78 → (madeCells (Value.agg #[.bool false, .slice none 0 0, .slice none 0 0]).cells ((26 : Int).toNat * 3))[k]? = some (#[Value.bool false, .slice none 0 0, .slice none 0 0][k % 3]!) := fun k hk => by
      rw [e0]
      simp [madeCells, hk]
    refine ⟨?_, ?_, ?_⟩
    · rw [g _ (by omega), show i * 3 % 3 = 0 by omega]; rfl
    · rw [g _ (by omega), show (i * 3 + 1) % 3 = 1 by omega]; rfl
    · rw [g _ (by omega), show (i * 3 + 2) % 3 = 2 by omega]; rfl
set_option maxRecDepth 20000 in
set_option maxHeartbeats 4000000 in
theorem varsNew_impl (w : World) :
    Calls Try.prog 11 #[] w fun e w' => ∃ o, e = .returned (.slice (some ⟨o, 0, none⟩) 26 26) ∧ VarB w' o (fun _ => false) ∧ w.heap.size ≤ o ∧ Below w.heap.size w w' := by
  obtain ⟨w1, r1, v1, b1⟩ := make_vars w
  have V1 : Hid (VarB w1 w.heap.size (fun _ => false)) := v1
  have B1 : Hid (Below w.heap.size w w1) := b1
  clear v1 b1
  go_enter Try.func11, Try.ntmps11
  go_wp2
  go_ret
  exact ⟨_, rfl, V1.out, Nat.le_refl _, B1.out⟩
set_option maxRecDepth 20000 in
set_option maxHeartbeats 4000000 in
theorem varsNew_spec (w : World) :
    Calls Try.prog 10 #[] w fun e w' => ∃ o, e = .returned (.slice (some ⟨o, 0, none⟩) 26 26) ∧ VarB w' o (fun _ => false) ∧ w.heap.size ≤ o ∧ Below w.heap.size w w' := by
  obtain ⟨w1, r1, v1, b1⟩ := make_vars w
  have V1 : Hid (VarB w1 w.heap.size (fun _ => false)) := v1
  have B1 : Hid (Below w.heap.size w w1) := b1
  clear v1 b1
  go_enter Try.func10, Try.ntmps10
  go_wp2
  go_ret
  exact ⟨_, rfl, V1.out, Nat.le_refl _, B1.out⟩
theorem arr_nil (w : World) : ArrI w (.agg #[.slice none 0 0, .slice none 0 0]) [] [] := ⟨none, 0, none, 0, rfl, .inl rfl, .inl rfl, by simp, by simp⟩
set_option maxRecDepth 20000 in
set_option maxHeartbeats 4000000 in
/-- Two letters that are not set. -/
theorem eqVar_none (w : World) :
    Calls Try.prog 19 #[.agg #[.bool false, .slice none 0 0, .slice none 0 0], .agg #[.bool false, .slice none 0 0, .slice none 0 0]] w fun e w' => e = .returned (.bool true) ∧ Below w.heap.size w w' := by
  go_enter Try.func19, Try.ntmps19
  go_wp2_with fail
  generalize hW : (w.alloc (.cells #[.bool false, .slice none 0 0, .slice none 0 0] 40)).alloc (.cells #[.bool false, .slice none 0 0, .slice none 0 0] 40) = w2
  have B2 : Hid (Below w.heap.size w w2) := by rw [← hW]; exact bAlloc (bAlloc (Below.refl _ _) _) _
  clear hW
  refine (eq_arrI (arr_nil _) (arr_nil _) (by simp) (by simp)).mono ?_
  rintro r w3 ⟨rfl, hb⟩
  have B3 : Hid (Below w.heap.size w w3) := bTrans B2.out hb
  clear hb
  go_wp2
  go_ret
  exact ⟨rfl, B3.out⟩
set_option maxRecDepth 20000 in
set_option maxHeartbeats 4000000 in
/-- Letters none of which is set. -/
theorem eqVarS_none {w : World} {o o' : Nat} (h : VarB w o (fun _ => false)) (k : VarB w o' (fun _ => false)) :
    Calls Try.prog 9 #[.slice (some ⟨o, 0, none⟩) 26 26, .slice (some ⟨o', 0, none⟩) 26 26] w fun e w' => e = .returned (.bool true) ∧ Below w.heap.size w w' := by
  have H : Hid (VarB w o (fun _ => false)) := h
  have K : Hid (VarB w o' (fun _ => false)) := k
  clear h k
  go_enter Try.func9, Try.ntmps9
  go_wp2
  go_loopw [5] (fun i w' => ∃ k : Nat, k ≤ 26 ∧ i = .int .i64 k ∧ Below w.heap.size w w') (fun i _ => 26 - (intOf i).toNat)
  case atStart => exact ⟨0, by omega, rfl, Below.refl _ _⟩
  case round =>
    obtain ⟨k, hk, rfl, hb⟩ := hrel
    have HB : Hid (Below w.heap.size w wr) := hb
    clear hb
    by_cases hlt : (k : Int) < 26
    · have L : k < 26 := by omega
      have VA : Hid (VarB wr o (fun _ => false)) := H.out.keep HB.out
      have VC : Hid (VarB wr o' (fun _ => false)) := K.out.keep HB.out
      have p0 := VA.out.c0 L
      have p1 := VA.out.c1 L
      have p2 := VA.out.c2 L
      have q0 := VC.out.c0 L
      have q1 := VC.out.c1 L
      have q2 := VC.out.c2 L
      go_wp2_with fail
      go_region_held3 (fun w' => w'.cell? ⟨o, k * 3, none⟩ = some (.bool false) ∧ w'.cell? ⟨o, k * 3 + 1, none⟩ = some (.slice none 0 0) ∧ w'.cell? ⟨o, k * 3 + 2, none⟩ = some (.slice none 0 0) ∧ w'.cell? ⟨o', k * 3, none⟩ = some (.bool false) ∧ w'.cell? ⟨o', k * 3 + 1, none⟩ = some (.slice none 0 0) ∧ w'.cell? ⟨o', k * 3 + 2, none⟩ = some (.slice none 0 0))
        (first | with_reducible exact ⟨z0, z1, z2, z3, z4, z5⟩ | exact ⟨p0, p1, p2, q0, q1, q2⟩)
        ((go_at_call 19; refine (eqVar_none _).mono ?_; rintro r w2 ⟨rfl, hb⟩; have HB2 : Hid (Below wr.heap.size wr w2) := bTrans ((Below.refl wr.heap.size wr).drew) hb; have z0 := (VA.out.keep HB2.out).c0 L; have z1 := (VA.out.keep HB2.out).c1 L; have z2 := (VA.out.keep HB2.out).c2 L; have z3 := (VC.out.keep HB2.out).c0 L; have z4 := (VC.out.keep HB2.out).c1 L; have z5 := (VC.out.keep HB2.out).c2 L; clear hb))
      all_goals
        go_wp2
        go_roundw
        case rel => exact ⟨k + 1, by omega, by go_num, bTrans HB.out HB2.out⟩
        case measure => simp [intOf]; omega
    · go_wp2
      go_ret
      exact ⟨rfl, HB.out⟩
set_option maxRecDepth 20000 in
set_option maxHeartbeats 1000000 in
theorem held_none (k0 : Int) (w : World) :
    Calls Try.prog 21 #[.slice none 0 0, .int .i64 k0] w fun e w' => e = .returned (.int .i64 k0) ∧ w' = w := by
  go_enter Try.func21, Try.ntmps21
  go_wp2
  refine wp_loop_rounds 1 ?_
  rw [rounds_succ]
  go_wp2
  go_ret
  exact ⟨rfl, rfl⟩
/-- Which letters are set when they are marked from 1 on. -/
def markedB (n : Nat) : Nat → Bool := fun i => if i < n then ((((1 + i) % 3 : Nat) : Int) == 0) else false
theorem markedB_succ (n : Nat) : (fun k => if k = n then ((((1 + n) % 3 : Nat) : Int) == 0) else markedB n k) = markedB (n + 1) := by
  funext k
  unfold markedB
  by_cases e : k = n
  · subst e; simp
  · rw [if_neg e]
    by_cases l : k < n
    · rw [if_pos l, if_pos (by omega)]
    · rw [if_neg l, if_neg (by omega)]
theorem markedB_at {n i : Nat} (h : i < n) : markedB n i = ((((1 + i) % 3 : Nat) : Int) == 0) := by unfold markedB; rw [if_pos h]
set_option maxRecDepth 20000 in
set_option maxHeartbeats 4000000 in
/-- Letters are marked. -/
theorem mark_vars {w : World} {o : Nat} (h : VarB w o (fun _ => false)) :
    Calls Try.prog 12 #[.slice (some ⟨o, 0, none⟩) 26 26, .int .i64 1] w fun e w' => e = .returned (.int .i64 27) ∧ VarB w' o (markedB 26) ∧ Win o (o + 1) w w' := by
  have H : Hid (VarB w o (markedB 0)) := h
  have W0 : Hid (Win o (o + 1) w w) := ⟨rfl, rfl, rfl, Nat.le_refl _, fun _ _ _ => rfl⟩
  clear h
  go_enter Try.func12, Try.ntmps12
  go_wp2
  go_loopw [1, 5] (fun kv i w' => ∃ j : Nat, j ≤ 26 ∧ i = .int .i64 (j : Int) ∧ kv = .int .i64 (1 + (j : Int)) ∧ VarB w' o (markedB j) ∧ Win o (o + 1) w w') (fun _ i _ => 26 - (intOf i).toNat)
  case atStart => exact ⟨0, by omega, rfl, rfl, H.out, W0.out⟩
  case round =>
    obtain ⟨j, hj, rfl, rfl, hV, hW⟩ := hrel
    have VJ : Hid (VarB wr o (markedB j)) := hV
    have WJ : Hid (Win o (o + 1) w wr) := hW
    clear hV hW
    by_cases hlt : (j : Int) < 26
    · have L : j < 26 := by omega
      obtain ⟨r, hr⟩ : ∃ r, r = (1 + j) % 3 := ⟨_, rfl⟩
      have e1 : (1 + (j : Int)).tmod 3 = (r : Int) := by rw [Int.tmod_eq_emod_of_nonneg (by omega), hr]; omega
      have e2 : (1 + (j : Int)) % 3 = (r : Int) := by rw [hr]; omega
      have e3 : IntKind.i64.wrap (r : Int) = (r : Int) := by rw [IntKind.wrap_i64]; omega
      have e4 : IntKind.i64.wrap (1 + (j : Int) + 1) = 1 + (j : Int) + 1 := by rw [IntKind.wrap_i64]; omega
      have e5 : 1 + (j : Int) + 1 = 1 + ((j + 1 : Nat) : Int) := by omega
      have VN : Hid (VarB (wr.setCell ⟨o, j * 3, none⟩ (.bool ((r : Int) == 0))) o (markedB (j + 1))) := by
        have q := VJ.out.set L ((r : Int) == 0)
        rw [hr, markedB_succ] at q
        rw [hr]
        exact q
      have WN : Hid (Win o (o + 1) w (wr.setCell ⟨o, j * 3, none⟩ (.bool ((r : Int) == 0)))) := WJ.out.trans (win_setCell _ _ _ _)
      have c0 := VJ.out.c0 L
      have f0 := VJ.out.free (j * 3)
      clear hr
      generalize markedB j j = bo at *
      go_upto_region 6 with fail
      generalize wr.setCell ⟨o, j * 3, none⟩ (.bool ((r : Int) == 0)) = w1 at *
      have c1 := VN.out.c1 L
      have c2 := VN.out.c2 L
      clear c0 f0
      go_wp2_with (go_at_call 20; refine (mark_none _ _).mono ?_; rintro r' w' ⟨rfl, hw⟩; subst w')
      go_roundw
      case rel => exact ⟨j + 1, by omega, by go_num, by go_num, VN.out, WN.out⟩
      case measure => simp [intOf]; omega
    · obtain rfl : j = 26 := by omega
      go_wp2
      go_ret
      exact ⟨rfl, VJ.out, WJ.out⟩
set_option maxRecDepth 20000 in
set_option maxHeartbeats 4000000 in
/-- What is marked is held. -/
theorem held_vars {w : World} {o : Nat} (h : VarB w o (markedB 26)) :
    Calls Try.prog 13 #[.slice (some ⟨o, 0, none⟩) 26 26, .int .i64 1] w fun e w' => e = .returned (.int .i64 27) ∧ w' = w := by
  have H : Hid (VarB w o (markedB 26)) := h
  clear h
  go_enter Try.func13, Try.ntmps13
  go_wp2
  go_loopw [1, 5] (fun kv i w' => ∃ j : Nat, j ≤ 26 ∧ i = .int .i64 (j : Int) ∧ kv = .int .i64 (1 + (j : Int)) ∧ w' = w) (fun _ i _ => 26 - (intOf i).toNat)
  case atStart => exact ⟨0, by omega, rfl, rfl, rfl⟩
  case round =>
    obtain ⟨j, hj, rfl, rfl, hw⟩ := hrel
    subst wr
    by_cases hlt : (j : Int) < 26
    · have L : j < 26 := by omega
      obtain ⟨r, hr⟩ : ∃ r, r = (1 + j) % 3 := ⟨_, rfl⟩
      have e1 : (1 + (j : Int)).tmod 3 = (r : Int) := by rw [Int.tmod_eq_emod_of_nonneg (by omega), hr]; omega
      have e2 : (1 + (j : Int)) % 3 = (r : Int) := by rw [hr]; omega
      have e3 : IntKind.i64.wrap (r : Int) = (r : Int) := by rw [IntKind.wrap_i64]; omega
      have e4 : IntKind.i64.wrap (1 + (j : Int) + 1) = 1 + (j : Int) + 1 := by rw [IntKind.wrap_i64]; omega
      have e5 : 1 + (j : Int) + 1 = 1 + ((j + 1 : Nat) : Int) := by omega
      have c0 := H.out.c0 L
      rw [markedB_at L, ← hr] at c0
      have c1 := H.out.c1 L
      have c2 := H.out.c2 L
      have hne : (((r : Int) == 0) != ((r : Int) == 0)) = false := by simp
      have hn0 : ¬ 1 + (j : Int) + 1 < 0 := by omega
      clear hr
      go_wp2_with (go_at_call 21; refine (held_none _ _).mono ?_; rintro r' w' ⟨rfl, hw⟩; subst w')
      go_roundw
      case rel => exact ⟨j + 1, by omega, by go_num, by go_num, by first | rfl | trivial⟩
      case measure => simp [intOf]; omega
    · obtain rfl : j = 26 := by omega
      go_wp2
      go_ret
      exact ⟨rfl, rfl⟩
end Go.Proofs.Ytmlncpplkhlnfaa
