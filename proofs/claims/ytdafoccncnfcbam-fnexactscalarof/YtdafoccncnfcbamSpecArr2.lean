/-
  Walks: the specification's ArraySame, ScalarOf, VectorOf and NumAt.
-/
import Derived.Test.YtdafoccncnfcbamSpecArr
import Derived.Test.YtdafoccncnfcbamAppend
import Derived.OwnWalk
import Derived.Laws.ResultCell
namespace Go.Proofs.Ytdafoccncnfcbam
open Go.RowKit
set_option linter.unusedVariables false
set_option linter.unusedSimpArgs false
set_option maxRecDepth 20000 in
set_option maxHeartbeats 2000000 in
/-- ArraySame. -/
theorem arrSame_spec {s d s' d' : List Int} {w : World} {v u : Value} (h : ArrI w v s d) (k : ArrI w u s' d') (hs : s.length ≤ 1048576) (hd : d.length ≤ 1048576) (hd' : d'.length ≤ 1048576) :
    Calls Try.prog 22 #[v, u] w fun e w' => e = .returned (.bool (arrOk s d && (decide (s = s') && decide (d = d')))) ∧ Below w.heap.size w w' := by
  have H : Hid (ArrI w v s d) := h
  have K : Hid (ArrI w u s' d') := k
  obtain ⟨a, c, b, e, rfl, h1, h2, _, _⟩ := h
  obtain ⟨a', c', b', e', rfl, k1, k2, _, _⟩ := k
  have H1 : Hid (Ints w a s) := h1
  have H2 : Hid (Ints w b d) := h2
  have K1 : Hid (Ints w a' s') := k1
  have K2 : Hid (Ints w b' d') := k2
  have HS : Hid (s.length ≤ 4611686018427387904) := by show _ ≤ _; omega
  have HD : Hid (d.length ≤ 4611686018427387904) := by show _ ≤ _; omega
  have HE : Hid (s = s' → d = d' → arrOk s' d' = arrOk s d) := by rintro rfl rfl; rfl
  clear h1 h2 k1 k2
  have HD1 : Hid (d.length ≤ 1048576) := hd
  have HD2 : Hid (d'.length ≤ 1048576) := hd'
  clear hd hd' hs
  generalize ho : arrOk s d = o
  generalize ho' : arrOk s' d' = o'
  generalize hp : decide (s = s') = p
  generalize hq : decide (d = d') = q
  have HO : Hid (arrOk s d = o) := ho
  have HO' : Hid (arrOk s' d' = o') := ho'
  have HP : Hid (decide (s = s') = p) := hp
  have HQ : Hid (decide (d = d') = q) := hq
  clear ho ho' hp hq
  go_enter Try.func22, Try.ntmps22
  go_wp2_with fail
  refine (arrOk_spec (H.out.keep (bAlloc (bAlloc (Below.refl _ _) _) _)) HD1.out).mono ?_
  rintro r w1 ⟨rfl, hb⟩
  have HB : Hid (Below w.heap.size w w1) := bTrans (bAlloc (bAlloc (Below.refl _ _) _) _) hb
  have r0 : w1.cell? ⟨w.heap.size, 0, none⟩ = some (.slice a s.length c) := by rw [hb.cell (p := ⟨w.heap.size, 0, none⟩) (by simp; omega)]; simp
  have r1 : w1.cell? ⟨w.heap.size, 1, none⟩ = some (.slice b d.length e) := by rw [hb.cell (p := ⟨w.heap.size, 1, none⟩) (by simp; omega)]; simp
  have t0 : w1.cell? ⟨w.heap.size + 1, 0, none⟩ = some (.slice a' s'.length c') := by rw [hb.cell (p := ⟨w.heap.size + 1, 0, none⟩) (by simp)]; simp
  have t1 : w1.cell? ⟨w.heap.size + 1, 1, none⟩ = some (.slice b' d'.length e') := by rw [hb.cell (p := ⟨w.heap.size + 1, 1, none⟩) (by simp)]; simp
  have L1 : Hid (w.heap.size + 1 < w1.heap.size) := by have := hb.size; simp at this; show _ < _; omega
  clear hb
  rw [HO.out]
  cases o
  · go_wp2
    go_ret
    exact ⟨rfl, HB.out⟩
  go_wp2_with fail
  refine (arrOk_spec (K.out.keep HB.out) HD2.out).mono ?_
  rintro r w2 ⟨rfl, hb⟩
  have HB2 : Hid (Below w.heap.size w w2) := bTrans HB.out hb
  have r0' : w2.cell? ⟨w.heap.size, 0, none⟩ = some (.slice a s.length c) := by rw [hb.cell (p := ⟨w.heap.size, 0, none⟩) (by have := L1.out; show w.heap.size < _; omega)]; exact r0
  have r1' : w2.cell? ⟨w.heap.size, 1, none⟩ = some (.slice b d.length e) := by rw [hb.cell (p := ⟨w.heap.size, 1, none⟩) (by have := L1.out; show w.heap.size < _; omega)]; exact r1
  have t0' : w2.cell? ⟨w.heap.size + 1, 0, none⟩ = some (.slice a' s'.length c') := by rw [hb.cell (p := ⟨w.heap.size + 1, 0, none⟩) L1.out]; exact t0
  have t1' : w2.cell? ⟨w.heap.size + 1, 1, none⟩ = some (.slice b' d'.length e') := by rw [hb.cell (p := ⟨w.heap.size + 1, 1, none⟩) L1.out]; exact t1
  clear hb r0 r1 t0 t1 L1
  rw [HO'.out]
  cases o'
  · have HN : Hid ((p && q) = false) := by
      show _ = _
      rw [← HP.out, ← HQ.out]
      by_cases e1 : s = s'
      · by_cases e2 : d = d'
        · have q := HE.out e1 e2; rw [HO.out, HO'.out] at q; cases q
        · simp [e2]
      · simp [e1]
    go_wp2
    go_ret
    exact ⟨by rw [Bool.true_and, HN.out]; rfl, HB2.out⟩
  go_wp2_with fail
  refine (l2same_ints c c' HS.out (H1.out.keep HB2.out) (K1.out.keep HB2.out)).mono ?_
  rintro r w3 ⟨rfl, j, hw⟩
  have HB3 : Hid (Below w.heap.size w w3) := by rw [hw]; exact bDrewN HB2.out j
  have r1 : w3.cell? ⟨w.heap.size, 1, none⟩ = some (.slice b d.length e) := by rw [hw]; exact r1'
  have t1 : w3.cell? ⟨w.heap.size + 1, 1, none⟩ = some (.slice b' d'.length e') := by rw [hw]; exact t1'
  clear hw r0' r1' t0' t1'
  rw [HP.out]
  cases p
  · go_wp2
    go_ret
    exact ⟨rfl, HB3.out⟩
  go_wp2_with fail
  refine (l2same_ints e e' HD.out (H2.out.keep HB3.out) (K2.out.keep HB3.out)).mono ?_
  rintro r w4 ⟨rfl, j2, hw⟩
  have HB4 : Hid (Below w.heap.size w w4) := by rw [hw]; exact bDrewN HB3.out j2
  clear hw
  rw [HQ.out]
  go_wp2
  go_ret
  exact ⟨by simp, HB4.out⟩
set_option maxRecDepth 20000 in
set_option maxHeartbeats 1000000 in
theorem scalar_spec (x : Int) (w : World) :
    Calls Try.prog 42 #[.int .i64 x] w fun e w' => ∃ v, e = .returned v ∧ Arr w.heap.size w'.heap.size w' v [] [x] ∧ Below w.heap.size w w' := by
  go_enter Try.func42, Try.ntmps42
  go_wp2
  go_returns
  refine ⟨_, rfl, ⟨_, _, rfl, Piece.nil _ _ _, ?_, fun g off n c off' n' c' h => by cases h⟩, by repeat first | exact Below.refl _ _ | refine bAlloc ?_ _⟩
  exact OwnInts.piece (l := [x]) (heap_alloc2_new w _ _) (by omega) (by simp) 1
set_option maxRecDepth 20000 in
set_option maxHeartbeats 1000000 in
/-- ScalarOf. -/
theorem scalarOf_spec (x : Int) (w : World) :
    Calls Try.prog 24 #[.int .i64 x] w fun e w' => ∃ v, e = .returned (.tuple #[v, .bool (ok x)]) ∧ Arr w.heap.size w'.heap.size w' v [] (if ok x = true then [x] else []) ∧ Below w.heap.size w w' := by
  cases hx : ok x
  · go_enter Try.func24, Try.ntmps24
    go_wp2_with fail
    refine (numOk_spec x _).mono ?_
    rintro r w' ⟨rfl, hw⟩
    subst w'
    rw [hx]
    go_wp2
    go_returns
    exact ⟨_, rfl, arr_zero _ _ _, bAlloc (Below.refl _ _) _⟩
  · go_enter Try.func24, Try.ntmps24
    go_wp2_with fail
    refine (numOk_spec x _).mono ?_
    rintro r w' ⟨rfl, hw⟩
    subst w'
    rw [hx]
    go_wp2_with fail
    refine (scalar_spec x _).mono ?_
    rintro r w1 ⟨v, rfl, ha, hb⟩
    obtain ⟨a, c, b, e, rfl, _, _, _, _⟩ := ha.arrI
    simp only [List.length_nil, List.length_cons, Nat.zero_add] at ha ⊢
    have hR : w1.heap[w.heap.size]? = some (.cells #[.slice none 0 0, .slice none 0 0] 32 (0, 0)) := by rw [hb.block w.heap.size (by simp)]; exact heap_alloc_new w _
    have HA : Hid (Arr (w.heap.size + 1) w1.heap.size w1 (.agg #[.slice a 0 c, .slice b 1 e]) [] [x]) := ha.mono (by simp) (Nat.le_refl _)
    have HB : Hid (Below w.heap.size w w1) := bTrans (bAlloc (Below.refl _ _) _) hb
    have k0 : w1.cell? ⟨w.heap.size, 0, none⟩ = some (.slice none 0 0) := cell_at hR rfl
    have k1 : w1.cell? ⟨w.heap.size, 1, none⟩ = some (.slice none 0 0) := cell_at hR rfl
    have f0 : w1.frozen? ⟨w.heap.size, 0, none⟩ = false := free_at hR 0
    have f1 : w1.frozen? ⟨w.heap.size, 1, none⟩ = false := free_at hR 1
    have HR : Hid (((w1.setCell ⟨w.heap.size, 0, none⟩ (.slice a 0 c)).setCell ⟨w.heap.size, 1, none⟩ (.slice b 1 e)).heap[w.heap.size]? = some (.cells #[.slice a 0 c, .slice b 1 e] 32 (0, 0))) := arr_stored hR
    clear hR ha hb
    go_wp2
    refine bodyPost_ret (results_arr_tmp Try.results24 _ _ w.heap.size _ _ rfl HR.out) rfl ?_
    refine ⟨_, rfl, ?_, below_setCell (below_setCell HB.out (Nat.le_refl _) _ _) (Nat.le_refl _) _ _⟩
    exact ((HA.out.setCell (Nat.lt_succ_self _) _ _).setCell (Nat.lt_succ_self _) _ _).mono (by omega) (by simp [size_setCell])
set_option maxRecDepth 20000 in
set_option maxHeartbeats 1000000 in
theorem vector_spec {l : List Int} {a : Option Addr} {w : World} (c : Nat) (h1 : Ints w a l) (hl : l.length ≤ 1048576) :
    Calls Try.prog 44 #[.slice a l.length c] w fun e w' => ∃ v, e = .returned v ∧ Arr w.heap.size w'.heap.size w' v [(l.length : Int)] l ∧ Below w.heap.size w w' := by
  obtain ⟨v, w1, hrun, hp, hb⟩ := append_new (((h1.alloc (.cells #[.slice none 0 0, .slice none 0 0] 32)).alloc (.cells #[.int .i64 l.length] 3)).alloc (.cells #[] 3)) hl (w.heap.size + 1 + 1) 0 c
  obtain ⟨b, e, rfl, hi⟩ := hp.ints
  have hR : w1.heap[w.heap.size]? = some (.cells #[.slice none 0 0, .slice none 0 0] 32 (0, 0)) := by
    rw [hb.block w.heap.size (by simp; omega), heap_alloc_old _ _ (by simp; omega)]
    exact heap_alloc2_old w _ _
  have hS : w1.heap[w.heap.size + 1]? = some (.cells #[.int .i64 l.length] 3 (0, 0)) := by
    rw [hb.block (w.heap.size + 1) (by simp), heap_alloc_old _ _ (by simp)]
    exact heap_alloc2_new w _ _
  have HB : Hid (Below w.heap.size w w1) := bTrans (bAlloc (bAlloc (bAlloc (Below.refl _ _) _) _) _) hb
  have HA : Hid (Arr (w.heap.size + 1) w1.heap.size w1 (.agg #[.slice (some ⟨w.heap.size + 1, 0, none⟩) 1 1, .slice b l.length e]) [(l.length : Int)] l) := by
    have hz := hb.size
    simp at hz
    have p1 : Piece (w.heap.size + 1) (w.heap.size + 2) w1 (.slice (some ⟨w.heap.size + 1, 0, none⟩) 1 1) [(l.length : Int)] := OwnInts.piece (l := [(l.length : Int)]) hS (Nat.le_refl _) (by omega) 1
    exact ⟨_, _, rfl, p1.mono (Nat.le_refl _) (by omega), hp.mono (by simp <;> omega) (Nat.le_refl _), p1.apart hp (.inl (by simp <;> omega))⟩
  have k0 : w1.cell? ⟨w.heap.size, 0, none⟩ = some (.slice none 0 0) := cell_at hR rfl
  have k1 : w1.cell? ⟨w.heap.size, 1, none⟩ = some (.slice none 0 0) := cell_at hR rfl
  have f0 : w1.frozen? ⟨w.heap.size, 0, none⟩ = false := free_at hR 0
  have f1 : w1.frozen? ⟨w.heap.size, 1, none⟩ = false := free_at hR 1
  have HR : Hid (((w1.setCell ⟨w.heap.size, 0, none⟩ (.slice (some ⟨w.heap.size + 1, 0, none⟩) 1 1)).setCell ⟨w.heap.size, 1, none⟩ (.slice b l.length e)).heap[w.heap.size]? = some (.cells #[.slice (some ⟨w.heap.size + 1, 0, none⟩) 1 1, .slice b l.length e] 32 (0, 0))) := arr_stored hR
  have HRUN : Hid (∀ (ty : TypeId), (Builtin.append_ #[22, 22] ty #[.slice (some ⟨w.heap.size + 1 + 1, 0, none⟩) 0 0, .slice a l.length c]).run Try.prog (((w.alloc (.cells #[.slice none 0 0, .slice none 0 0] 32)).alloc (.cells #[.int .i64 l.length] 3)).alloc (.cells #[] 3)) = .ok (.slice b l.length e) w1) := hrun
  clear hR hS hb hp hi h1 hrun
  go_enter Try.func44, Try.ntmps44
  go_wp2_with (at_builtin; refine wpList_append_run rfl _ _ 22 22 rfl _ _ _ rfl rfl HRUN.out ?_)
  refine bodyPost_ret (v := .agg #[.slice (some ⟨w.heap.size + 1, 0, none⟩) 1 1, .slice b l.length e]) (results_arr rfl _ _ w.heap.size _ _ rfl HR.out) rfl ?_
  refine ⟨_, rfl, ?_, below_setCell (below_setCell HB.out (Nat.le_refl _) _ _) (Nat.le_refl _) _ _⟩
  exact ((HA.out.setCell (Nat.lt_succ_self _) _ _).setCell (Nat.lt_succ_self _) _ _).mono (by omega) (by simp [size_setCell])
/-- What VectorOf answers. -/
def vecOk (l : List Int) : Bool := arrOk [(l.length : Int)] l
set_option maxRecDepth 20000 in
set_option maxHeartbeats 1000000 in
/-- VectorOf. -/
theorem vectorOf_spec {l : List Int} {a : Option Addr} {w : World} (c : Nat) (h1 : Ints w a l) (hl : l.length ≤ 1048576) :
    Calls Try.prog 28 #[.slice a l.length c] w fun e w' => ∃ v, e = .returned (.tuple #[v, .bool (vecOk l)]) ∧ Arr w.heap.size w'.heap.size w' v (if vecOk l = true then [(l.length : Int)] else []) (if vecOk l = true then l else []) ∧ Below w.heap.size w w' := by
  have H1 : Hid (Ints w a l) := h1
  have HL : Hid (l.length ≤ 1048576) := hl
  clear h1 hl
  cases hx : vecOk l
  all_goals
    have HX : Hid (vecOk l = _) := hx
    clear hx
    go_enter Try.func28, Try.ntmps28
    go_wp2_with fail
    refine (vector_spec c (H1.out.alloc _) HL.out).mono ?_
    rintro r w1 ⟨v, rfl, ha, hb⟩
    obtain ⟨a1, c1, b1, e1, rfl, _, _, _, _⟩ := ha.arrI
    have HI : Hid (ArrI w1 (.agg #[.slice a1 1 c1, .slice b1 l.length e1]) [(l.length : Int)] l) := ha.arrI
    have HR : Hid (w1.heap[w.heap.size]? = some (.cells #[.slice none 0 0, .slice none 0 0] 32 (0, 0))) := by show _ = _; rw [hb.block w.heap.size (by simp)]; exact heap_alloc_new w _
    have HA : Hid (Arr (w.heap.size + 1) w1.heap.size w1 (.agg #[.slice a1 1 c1, .slice b1 l.length e1]) [(l.length : Int)] l) := ha.mono (by simp) (Nat.le_refl _)
    have HB : Hid (Below w.heap.size w w1) := bTrans (bAlloc (Below.refl _ _) _) hb
    have L1 : Hid (w.heap.size < w1.heap.size) := lt_of_heapA HR.out
    clear ha hb
    simp only [List.length_cons, List.length_nil, Nat.zero_add]
    go_wp2_with fail
    refine (arrOk_spec (HI.out.keep (bAlloc (Below.refl _ _) _)) HL.out).mono ?_
    rintro r w2 ⟨rfl, hb⟩
    have HB2 : Hid (Below w.heap.size w w2) := bTrans (bAlloc HB.out _) hb
    have hR : w2.heap[w.heap.size]? = some (.cells #[.slice none 0 0, .slice none 0 0] 32 (0, 0)) := by
      rw [(bTrans (bAlloc (Below.refl w1.heap.size w1) _) hb).block w.heap.size L1.out]; exact HR.out
    have HA2 : Hid (Arr (w.heap.size + 1) w1.heap.size w2 (.agg #[.slice a1 1 c1, .slice b1 l.length e1]) [(l.length : Int)] l) := HA.out.keep (bTrans (bAlloc (Below.refl _ _) _) hb)
    have t0 : w2.cell? ⟨w1.heap.size, 0, none⟩ = some (.slice a1 1 c1) := by rw [hb.cell (p := ⟨w1.heap.size, 0, none⟩) (by simp)]; exact cell_newA _ _ _ rfl
    have t1 : w2.cell? ⟨w1.heap.size, 1, none⟩ = some (.slice b1 l.length e1) := by rw [hb.cell (p := ⟨w1.heap.size, 1, none⟩) (by simp)]; exact cell_newA _ _ _ rfl
    have L2 : Hid (w1.heap.size ≤ w2.heap.size) := by have := hb.size; simp at this; show _ ≤ _; omega
    have k0 : w2.cell? ⟨w.heap.size, 0, none⟩ = some (.slice none 0 0) := cell_at hR rfl
    have k1 : w2.cell? ⟨w.heap.size, 1, none⟩ = some (.slice none 0 0) := cell_at hR rfl
    have f0 : w2.frozen? ⟨w.heap.size, 0, none⟩ = false := free_at hR 0
    have f1 : w2.frozen? ⟨w.heap.size, 1, none⟩ = false := free_at hR 1
    have HS : Hid (∀ x y, ((w2.setCell ⟨w.heap.size, 0, none⟩ x).setCell ⟨w.heap.size, 1, none⟩ y).heap[w.heap.size]? = some (.cells #[x, y] 32 (0, 0))) := fun x y => arr_stored hR
    clear hR hb
    rw [show arrOk [(l.length : Int)] l = _ from HX.out]
    go_wp2
    refine bodyPost_ret (results_arr_tmp Try.results28 _ _ w.heap.size _ _ rfl (HS.out _ _)) rfl ?_
    refine ⟨_, rfl, ?_, below_setCell (below_setCell HB2.out (Nat.le_refl _) _ _) (Nat.le_refl _) _ _⟩
    first
      | exact arr_zero _ _ _
      | exact ((HA2.out.setCell (Nat.lt_succ_self _) _ _).setCell (Nat.lt_succ_self _) _ _).mono (by omega) (by simp only [size_setCell]; exact L2.out)
end Go.Proofs.Ytdafoccncnfcbam
