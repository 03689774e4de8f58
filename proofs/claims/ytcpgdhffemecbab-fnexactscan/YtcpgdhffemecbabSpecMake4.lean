/-
  Walks: the specification's l5Rows: rows one behind the other.
-/
import Derived.Test.YtcpgdhffemecbabMakeM
import Derived.Test.YtcpgdhffemecbabGrow
import Derived.Test.YtcpgdhffemecbabArrs
namespace Go.Proofs.Ytcpgdhffemecbab
open Go.RowKit
set_option linter.unusedVariables false
set_option linter.unusedSimpArgs false
/-- The numbers of the first n arrays of a list, one behind the other. -/
def catF (F : List (List Int)) (n : Nat) : List Int := (List.range n).flatMap (fun i => F.getD (2 * i + 1) [])
theorem catF_succ (F : List (List Int)) (n : Nat) : catF F (n + 1) = catF F n ++ F.getD (2 * n + 1) [] := by
  unfold catF; rw [List.range_succ, List.flatMap_append]; simp
theorem catF_mono (F : List (List Int)) {k n : Nat} (h : k ≤ n) : (catF F k).length ≤ (catF F n).length := by
  induction n with
  | zero => obtain rfl : k = 0 := by omega
            exact Nat.le_refl _
  | succ n ih =>
    by_cases e : k = n + 1
    · subst e; exact Nat.le_refl _
    · rw [catF_succ, List.length_append]
      have := ih (by omega)
      omega
set_option maxRecDepth 20000 in
set_option maxHeartbeats 4000000 in
/-- l5Rows. -/
theorem rows5_spec {F : List (List Int)} {t : List Int} {w : World} {v u : Value} {n : Nat} (hA : ArrsI w v F) (hS : IntsI w u t) (hF : F.length = 2 * n) (hn : n ≤ 1048576) (ht : t.length ≤ 1000000) (hL : (catF F n).length ≤ 1000000) :
    Calls Try.prog 50 #[v, u] w fun e w' => ∃ v', e = .returned v' ∧ Arr w.heap.size w'.heap.size w' v' ((n : Int) :: t) (catF F n) ∧ Below w.heap.size w w' := by
  have HA : Hid (ArrsI w v F) := hA
  obtain ⟨a, n', c, rfl, e1, _⟩ := hA
  obtain rfl : n' = n := by omega
  obtain ⟨b, f, rfl, g1, h1⟩ := hS
  have HL : Hid ((catF F n').length ≤ 1000000) := hL
  obtain ⟨Z, hZ⟩ : ∃ Z : List Int, Z = (n' : Int) :: t := ⟨_, rfl⟩
  obtain ⟨a5, c5, w5, hr5, hn5, hb5⟩ := growL (newInts_alloc (w.alloc (.cells #[.slice none 0 0, .slice none 0 0] 26)) [(n' : Int)] (Nat.le_refl _) (by simp)) ((h1.alloc (.cells #[.slice none 0 0, .slice none 0 0] 26)).alloc (.cells (vals [(n' : Int)]) 3)) (by simp) (by simp; omega) f
  have eZ : [(n' : Int)] ++ t = Z := by rw [hZ]; rfl
  rw [eZ] at hr5 hn5
  have R5 : Hid ((Builtin.append_ #[24, 24] 24 #[.slice (some ⟨w.heap.size + 1, 0, none⟩) 1 1, .slice b t.length f]).run Try.prog ((w.alloc (.cells #[.slice none 0 0, .slice none 0 0] 26)).alloc (.cells #[.int .i64 (n' : Int)] 3)) = .ok (.slice a5 Z.length c5) w5) := by
    have := hr5
    simp [vals] at this
    exact this
  have P5 : Hid (Piece (w.heap.size + 1) w5.heap.size w5 (.slice a5 Z.length c5) Z) := by
    have := hn5.piece
    show Piece _ _ _ _ _
    simpa using this
  have hb6 : Below (w.heap.size + 1) ((w.alloc (.cells #[.slice none 0 0, .slice none 0 0] 26)).alloc (.cells (vals [(n' : Int)]) 3)) w5 := by simpa using hb5
  have X5 : Hid (Box w5 w.heap.size (.slice none 0 0) (.slice none 0 0) 26) := by
    show w5.heap[_]? = _
    rw [hb6.block w.heap.size (Nat.lt_succ_self _)]
    exact heap_alloc2_old w _ _
  have B5 : Hid (Below w.heap.size w w5) := (bAlloc (bAlloc (Below.refl w.heap.size w) _) _).trans (hb6.mono (Nat.le_succ _))
  have L5 : Hid (w.heap.size + 1 ≤ w5.heap.size) := X5.out.lt
  clear hr5 hn5 hb5 hb6 h1 g1 e1 hF hL ht eZ
  rw [← hZ]
  clear hZ
  go_enter Try.func50, Try.ntmps50
  go_wp2_with (at_builtin; refine wpList_append_ty rfl _ _ 24 24 rfl _ _ _ rfl rfl R5.out ?_)
  generalize hW : w5.alloc (.cells #[.slice a5 Z.length c5, .slice none 0 0] 26) = W6
  have O6 : Hid (OutAt w5.heap.size w5 W6 (.slice a5 Z.length c5) none 0 0 (catF F 0)) := by rw [← hW]; exact outAt_new
  clear hW
  go_loopw [6] (fun i w' => ∃ (k q : Nat) (ad : Option Addr) (cd : Nat), k ≤ n' ∧ i = .int .i64 (k : Int) ∧ OutAt w5.heap.size w5 w' (.slice a5 Z.length c5) ad cd q (catF F k)) (fun i _ => n' - (intOf i).toNat)
  case atStart => exact ⟨0, _, _, _, by omega, rfl, O6.out⟩
  case round =>
    obtain ⟨k, q, ad, cd, hk, rfl, hO⟩ := hrel
    have OK : Hid (OutAt w5.heap.size w5 wr (.slice a5 Z.length c5) ad cd q (catF F k)) := hO
    clear hO O6
    obtain ⟨m0, m1, m2, m3⟩ := OK.out.cells
    by_cases hlt : (k : Int) < (n' : Int)
    · obtain ⟨o, off, sx, sy, rfl, ho, p0, p1, i0, i1⟩ := (HA.out.keep (bTrans B5.out OK.out.below)).at (k := k) (by omega)
      obtain ⟨ax, cx, rfl, gix, ix⟩ := i0
      obtain ⟨ay, cy, rfl, giy, iy⟩ := i1
      have LQ : Hid (q + (F.getD (2 * k + 1) []).length ≤ 1048576) := by
        have h1 := HL.out
        have h2 := catF_mono F (k := k + 1) (n := n') (by omega)
        have h3 := OK.out.len
        rw [catF_succ, List.length_append] at h2
        show _ ≤ _
        omega
      obtain ⟨a7, c7, w7, hr7, hb7, ho7⟩ := (OK.out.keep ((Below.refl wr.heap.size wr).drew)).growL (iy.keep ((Below.refl wr.heap.size wr).drew)) LQ.out cy
      rw [← catF_succ] at ho7
      clear ix gix iy giy
      generalize (F.getD (2 * k) []).length = lx at *
      generalize (F.getD (2 * k + 1) []).length = ly at *
      have R7 : Hid ((Builtin.append_ #[24, 24] 24 #[.slice ad q cd, .slice ay ly cy]).run Try.prog wr.drew = .ok (.slice a7 (q + ly) c7) w7) := hr7
      have O7 : Hid (OutAt w5.heap.size w5 (w7.setCell ⟨w5.heap.size, 1, none⟩ (.slice a7 (q + ly) c7)) (.slice a5 Z.length c5) a7 c7 (q + ly) (catF F (k + 1))) := ho7
      have n1 := hb7.c1
      have n2 : w7.frozen? ⟨w5.heap.size, 1, none⟩ = false := free_at hb7 1
      clear hr7 hb7 ho7
      go_wp2_with fail
      go_region_law (refine step_append_ty (by rfl) (.tmp 20) (.tmp 25) 24 24 (by rfl) _ _ _ (by rfl) (by rfl) R7.out ?_)
      all_goals
        go_wp2
        go_roundw
        case rel => exact ⟨k + 1, _, _, _, by omega, by go_num, O7.out⟩
        case measure => simp [intOf]; omega
    · obtain rfl : k = n' := by omega
      have HAr : Hid (Arr (w.heap.size + 1) wr.heap.size wr (.agg #[.slice a5 Z.length c5, .slice ad q cd]) Z (catF F k)) := OK.out.arr P5.out (Nat.le_refl _) L5.out
      have RR : Hid (Box wr w.heap.size (.slice none 0 0) (.slice none 0 0) 26) := X5.out.keep OK.out.below
      have BW : Hid (Below w.heap.size w wr) := bTrans B5.out OK.out.below
      have r0 := RR.out.c0
      have r1 := RR.out.c1
      have f0 : wr.frozen? ⟨w.heap.size, 0, none⟩ = false := free_at RR.out 0
      have f1 : wr.frozen? ⟨w.heap.size, 1, none⟩ = false := free_at RR.out 1
      have HR : Hid (((wr.setCell ⟨w.heap.size, 0, none⟩ (.slice a5 Z.length c5)).setCell ⟨w.heap.size, 1, none⟩ (.slice ad q cd)).heap[w.heap.size]? = some (.cells #[.slice a5 Z.length c5, .slice ad q cd] 26 (0, 0))) := arr_stored RR.out
      go_wp2
      refine bodyPost_ret (v := .agg #[.slice a5 Z.length c5, .slice ad q cd]) (results_arr rfl _ _ w.heap.size _ _ rfl HR.out) rfl ?_
      refine ⟨_, rfl, ?_, below_setCell (below_setCell BW.out (Nat.le_refl _) _ _) (Nat.le_refl _) _ _⟩
      exact ((HAr.out.setCell (by omega) _ _).setCell (by omega) _ _).mono (by omega) (by simp only [size_setCell]; omega)
end Go.Proofs.Ytcpgdhffemecbab
