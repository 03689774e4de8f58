/-
  Several texts, one behind the other: SpecOuter, NeutralS, SpecRed0.
-/
import Derived.Test.YtnkacfgbkfkhdaaGreatY29
import Derived.Test.YtnkacfgbkfkhdaaGreatY8
import Derived.Test.YtnkacfgbkfkhdaaGreatY9
import Derived.Test.YtnkacfgbkfkhdaaGreatY13
import Derived.Test.YtnkacfgbkfkhdaaGreatY39
import Derived.Deep.Cut
import Derived.Test.YtnkacfgbkfkhdaaGreatRows
import Derived.Test.YtnkacfgbkfkhdaaGreatY3
import Derived.WalkKit
import Derived.WalkSpells
import Derived.WalkLawsBesides
import Derived.Test.YtnkacfgbkfkhdaaGreatY19
namespace Go.Proofs.YtnkacfgbkfkhdaaGreat
open Go.RowKit
set_option linter.unusedVariables false
set_option linter.unusedSimpArgs false
theorem four7 (w : World) (A B C D : Obj) :
    ((((w.alloc A).alloc B).alloc C).alloc D).heap[w.heap.size]? = some A ∧ ((((w.alloc A).alloc B).alloc C).alloc D).heap[w.heap.size + 1]? = some B ∧ ((((w.alloc A).alloc B).alloc C).alloc D).heap[w.heap.size + 1 + 1]? = some C ∧ ((((w.alloc A).alloc B).alloc C).alloc D).heap[w.heap.size + 1 + 1 + 1]? = some D := by
  have e1 := heap_alloc_new w A
  have e2 := heap_alloc_new (w.alloc A) B
  have e3 := heap_alloc_new ((w.alloc A).alloc B) C
  have e4 := heap_alloc_new (((w.alloc A).alloc B).alloc C) D
  simp only [World.size_alloc] at e2 e3 e4
  refine ⟨?_, ?_, ?_, e4⟩
  · rw [heap_alloc_old _ _ (by simp only [World.size_alloc]; omega), heap_alloc_old _ _ (by simp only [World.size_alloc]; omega), heap_alloc_old _ _ (by simp only [World.size_alloc]; omega)]; exact e1
  · rw [heap_alloc_old _ _ (by simp only [World.size_alloc]; omega), heap_alloc_old _ _ (by simp only [World.size_alloc]; omega)]; exact e2
  · rw [heap_alloc_old _ _ (by simp only [World.size_alloc]; omega)]; exact e3
end Go.Proofs.YtnkacfgbkfkhdaaGreat
namespace Go.Proofs.YtnkacfgbkfkhdaaGreat
open Go.RowKit
set_option maxHeartbeats 400000 in
theorem neutral_spec (s : Int) (w : World) :
    Calls Tryz.prog 82 #[.int .i64 s] w fun e w' => e = .returned (.tuple #[.int .i64 (neu s).1, .bool (neu s).2]) ∧ w' = w := by
  go_enter Tryz.func82, Tryz.ntmps82
  go_wp2
  all_goals
    go_ret2
    refine ⟨?_, rfl⟩
    simp_all [neu]
end Go.Proofs.YtnkacfgbkfkhdaaGreat
namespace Go.Proofs.YtnkacfgbkfkhdaaGreat
open Go.RowKit
set_option linter.unusedVariables false
set_option linter.unusedSimpArgs false
set_option maxRecDepth 20000 in
set_option maxHeartbeats 8000000 in
/-- l7Reduce of no rows, of rank 0. -/
theorem l7red0_spec (g : Int) (w : World) (ra : Option Addr) (rc : Nat) (ta : Option Addr) (tc : Nat) :
    Calls Tryz.prog 61 #[.int .i64 g, .slice ra 0 rc, .slice ta 0 tc] w fun r w' => ∃ v', r = .returned (.tuple #[v', .int .i64 0]) ∧ Arr w.heap.size w'.heap.size w' v' [] [(neu g).1] ∧ Below w.heap.size w w' := by
  obtain ⟨x, hx⟩ : ∃ x, x = (neu g).1 := ⟨_, rfl⟩
  have HNE : Hid (∀ W, Calls Tryz.prog 82 #[.int .i64 g] W fun e w' => e = .returned (.tuple #[.int .i64 x, .bool (neu g).2]) ∧ w' = W) := fun W => by rw [hx]; exact neutral_spec g W
  have HSZ : Hid (∀ W, Calls Tryz.prog 32 #[.slice ta 0 tc] W fun e w' => e = .returned (.int .i64 1) ∧ w' = W) := fun W => by
    have q := size_spec (l := []) (a := ta) (w := W) tc (.inl rfl)
    rw [sizeV_0'] at q
    exact q
  rw [← hx]
  generalize (neu g).2 = y at *
  clear hx
  go_enter Tryz.func61, Tryz.ntmps61
  go_wp2_with fail
  refine (HNE.out _).mono ?_
  rintro r w' ⟨rfl, hw⟩
  subst w'
  generalize hW : w.alloc (.cells #[.slice none 0 0, .slice none 0 0] 26) = w2
  have R2 : Hid (Box w2 w.heap.size (.slice none 0 0) (.slice none 0 0) 26) := by rw [← hW]; exact box_new w _ _ _
  have HB2 : Hid (Below w.heap.size w w2) := by rw [← hW]; exact bAlloc (Below.refl _ _) _
  clear hW
  have HI : Hid (Ints w2 ta []) := .inl rfl
  obtain ⟨v5, w5, hrun5, hp5, hb5⟩ := append_new (HI.out.alloc (.cells #[] 3)) (by simp) w2.heap.size 0 tc
  obtain ⟨a5, c5, rfl, _⟩ := hp5.ints
  have R5 : Hid (∀ (ty : TypeId), (Builtin.append_ #[24, 24] ty #[.slice (some ⟨w2.heap.size, 0, none⟩) 0 0, .slice ta 0 tc]).run Tryz.prog (w2.alloc (.cells #[] 3)) = .ok (.slice a5 0 c5) w5) := hrun5
  have P5 : Hid (Piece w2.heap.size w5.heap.size w5 (.slice a5 ([] : List Int).length c5) []) := hp5.mono (by simp) (Nat.le_refl _)
  have B5 : Hid (Below w2.heap.size w2 w5) := bTrans (bAlloc (Below.refl _ _) _) hb5
  clear hrun5 hp5 hb5
  go_wp2_with (at_builtin; refine wpList_append_run rfl _ _ 24 24 rfl _ _ _ rfl rfl R5.out ?_)
  generalize hW : w5.alloc (.cells #[.slice a5 0 c5, .slice none 0 0] 26) = W6
  have O6 : Hid (OutAt w5.heap.size w5 W6 (.slice a5 0 c5) none 0 0 (List.replicate 0 x)) := by rw [← hW]; exact outAt_new
  clear hW
  go_loopw [12] (fun i w' => ∃ (k : Nat) (ad : Option Addr) (cd : Nat), k ≤ 1 ∧ i = .int .i64 (k : Int) ∧ OutAt w5.heap.size w5 w' (.slice a5 0 c5) ad cd k (List.replicate k x)) (fun i _ => 1 - (intOf i).toNat)
  case atStart => exact ⟨0, _, _, by omega, rfl, O6.out⟩
  case round =>
    obtain ⟨k, ad, cd, hk, rfl, hO⟩ := hrel
    have OK : Hid (OutAt w5.heap.size w5 wr (.slice a5 0 c5) ad cd k (List.replicate k x)) := hO
    clear hO
    obtain ⟨g0, g1, g2, g3⟩ := OK.out.cells
    go_wp2_with fail
    refine (HSZ.out _).mono ?_
    rintro r w' ⟨rfl, hw⟩
    subst w'
    by_cases hlt : (k : Int) < 1
    · obtain ⟨a7, c7, w7, hr7, hb7, ho7⟩ := OK.out.grow1 (by omega) x
      have R7 : Hid ((Builtin.append_ #[24, 24] 24 #[.slice ad k cd, .slice (some ⟨wr.heap.size, 0, none⟩) 1 1]).run Tryz.prog (wr.alloc (.cells #[.int .i64 x] 3)) = .ok (.slice a7 (k + 1) c7) w7) := hr7
      have O7 : Hid (OutAt w5.heap.size w5 (w7.setCell ⟨w5.heap.size, 1, none⟩ (.slice a7 (k + 1) c7)) (.slice a5 0 c5) a7 c7 (k + 1) (List.replicate (k + 1) x)) := by rw [← List.replicate_append_replicate (n := k) (m := 1)] ; exact ho7
      have m1 := hb7.c1
      have m2 : w7.frozen? ⟨w5.heap.size, 1, none⟩ = false := free_at hb7 1
      have m3 := (OK.out.box.keep (bAlloc (Below.refl wr.heap.size wr) (.cells #[.int .i64 x] 3))).c1
      clear hr7 hb7 ho7
      go_wp2_with (at_builtin; refine wpList_append_ty rfl _ _ 24 24 rfl _ _ _ rfl rfl R7.out ?_)
      go_roundw
      case rel => exact ⟨k + 1, _, _, by omega, by go_num, O7.out⟩
      case measure => simp [intOf]; omega
    · obtain rfl : k = 1 := by omega
      have HA : Hid (Arr w2.heap.size wr.heap.size wr (.agg #[.slice a5 0 c5, .slice ad 1 cd]) [] [x]) := OutAt.arr (S := []) OK.out P5.out (Nat.le_refl _) B5.out.size
      have RR2 : Hid (Box wr w.heap.size (.slice none 0 0) (.slice none 0 0) 26) := (R2.out.keep B5.out).keep OK.out.below
      have r0 := RR2.out.c0
      have r1 := RR2.out.c1
      have f0 : wr.frozen? ⟨w.heap.size, 0, none⟩ = false := free_at RR2.out 0
      have f1 : wr.frozen? ⟨w.heap.size, 1, none⟩ = false := free_at RR2.out 1
      have L1 : Hid (w.heap.size < w2.heap.size) := R2.out.lt
      have BW : Hid (Below w.heap.size w wr) := bTrans (bTrans HB2.out B5.out) OK.out.below
      have HR : Hid (((wr.setCell ⟨w.heap.size, 0, none⟩ (.slice a5 0 c5)).setCell ⟨w.heap.size, 1, none⟩ (.slice ad 1 cd)).heap[w.heap.size]? = some (.cells #[.slice a5 0 c5, .slice ad 1 cd] 26 (0, 0))) := arr_stored RR2.out
      go_wp2
      refine bodyPost_ret (results_arr_tmp Tryz.results61 _ _ (w.heap.size) _ _ rfl HR.out) rfl ?_
      refine ⟨_, rfl, ?_, below_setCell (below_setCell BW.out (by omega) _ _) (by omega) _ _⟩
      have L := L1.out
      exact ((HA.out.setCell L _ _).setCell L _ _).mono HB2.out.size (by simp only [size_setCell]; omega)
end Go.Proofs.YtnkacfgbkfkhdaaGreat
