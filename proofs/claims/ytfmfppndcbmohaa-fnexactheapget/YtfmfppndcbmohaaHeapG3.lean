/-
  Walks: the program's HeapGet whole; how long what is got is.
-/
import Derived.Test.YtfmfppndcbmohaaHeapG2
import Derived.Test.YtfmfppndcbmohaaHeapI3
namespace Go.Proofs.Ytfmfppndcbmohaa
open Go.RowKit
set_option linter.unusedVariables false
set_option linter.unusedSimpArgs false
theorem wds_len (W : List Int) (c : Cel) : (wds W c).length ≤ W.length := by unfold wds; simp; omega
theorem arrOf_len (ws : List Int) : (((arrOf ws).getD ([], [])).1).length ≤ ws.length ∧ (((arrOf ws).getD ([], [])).2).length ≤ ws.length := by
  unfold arrOf
  split
  · split
    · simp; omega
    · simp
  · simp
theorem gO_len (W : List Int) (t : Int) (n : Nat) (E : Nat → Cel) (i : Int) : (gS W t n E i).length ≤ W.length ∧ (gD W t n E i).length ≤ W.length := by
  unfold gS gD gO
  split
  · have := arrOf_len (wds W (E i.toNat))
    have := wds_len W (E i.toNat)
    omega
  · simp
theorem gS_len (W : List Int) (t : Int) (n : Nat) (E : Nat → Cel) (i : Int) : (gS W t n E i).length ≤ W.length := (gO_len W t n E i).1
theorem gD_len (W : List Int) (t : Int) (n : Nat) (E : Nat → Cel) (i : Int) : (gD W t n E i).length ≤ W.length := (gO_len W t n E i).2
set_option maxRecDepth 20000 in
set_option maxHeartbeats 8000000 in
theorem heapGet_impl (hS : SortsBy) (hS0 : SortsNone) {w : World} {v : Value} {W : List Int} {t : Int} {n : Nat} {E : Nat → Cel} (i : Int) (h : HI w v W t n E) (he : (∀ i, in64 (E i).f ∧ in64 (E i).l) ∧ in64 t) (hW : W.length ≤ 1048576) (hn : n ≤ 1048576) :
    Calls Try.prog 29 #[v, .int .i64 i] w fun e w' => ∃ v', e = .returned (.tuple #[v', .bool (gB W t n E i)]) ∧ Arr w.heap.size w'.heap.size w' v' (gS W t n E i) (gD W t n E i) ∧ Below w.heap.size w w' := by
  have CK : Hid (∀ W', Below w.heap.size w W' → Calls Try.prog 12 #[v] W' fun e w' => e = .returned (.bool (hOkB W.length t n E)) ∧ Below W'.heap.size W' w') := fun W' hb => heapOk_impl hS hS0 (h.keep hb) he hW hn
  have CG : Hid (hOkB W.length t n E = true → ∀ W', Below w.heap.size w W' → Calls Try.prog 54 #[v, .int .i64 i] W' fun e w' => ∃ v', e = .returned (.tuple #[v', .bool (gB W t n E i)]) ∧ Arr W'.heap.size w'.heap.size w' v' (gS W t n E i) (gD W t n E i) ∧ Below W'.heap.size W' w') := fun hk W' hb => get_impl i (h.keep hb) hk hW hn
  obtain ⟨wa, wc, ca, cc, rfl, h1, h2, h3, h4⟩ := h
  clear h1 h2 h3 h4 he hS hS0
  go_enter Try.func29, Try.ntmps29
  go_wp2_with fail
  generalize hV : (w.alloc (.cells #[.slice wa W.length wc, .int .i64 t, .slice ca n cc] 30)).alloc (.cells #[.slice none 0 0, .slice none 0 0] 45) = V
  have B1 : Hid (Below w.heap.size w V) := by rw [← hV]; exact bAlloc (bAlloc (Below.refl _ _) _) _
  have X1 : Hid (Box3 V w.heap.size (.slice wa W.length wc) (.int .i64 t) (.slice ca n cc) 30) := by rw [← hV]; exact (box3_new _ _ _ _ _).alloc _
  have Y1 : Hid (Box V (w.heap.size + 1) (.slice none 0 0) (.slice none 0 0) 45) := by rw [← hV]; exact heap_alloc2_new w _ _
  clear hV
  refine (CK.out _ B1.out).mono ?_
  rintro r w2 ⟨rfl, hb⟩
  have B2 : Hid (Below w.heap.size w w2) := bTrans B1.out hb
  have X2 : Hid (Box3 w2 w.heap.size (.slice wa W.length wc) (.int .i64 t) (.slice ca n cc) 30) := X1.out.keep hb
  have Y2 : Hid (Box w2 (w.heap.size + 1) (.slice none 0 0) (.slice none 0 0) 45) := Y1.out.keep hb
  clear hb B1 X1 Y1
  by_cases kk : hOkB W.length t n E = true
  case neg =>
    obtain ⟨e1, e2, e3⟩ := gO_none (W := W) (t := t) (n := n) (E := E) (i := i) (by unfold gO; rw [if_neg (fun h => kk h.1)])
    rw [show hOkB W.length t n E = false by simpa using kk]
    have r0 := Y2.out.c0
    have r1 := Y2.out.c1
    have f0 : w2.frozen? ⟨w.heap.size + 1, 0, none⟩ = false := free_at Y2.out 0
    have f1 : w2.frozen? ⟨w.heap.size + 1, 1, none⟩ = false := free_at Y2.out 1
    go_wp2
    refine bodyPost_ret (results_arr_tmp Try.results29 _ _ (w.heap.size + 1) _ _ rfl (arr_stored Y2.out)) rfl ?_
    rw [e1, e2, e3]
    exact ⟨_, rfl, arr_zero _ _ _, below_setCell (below_setCell B2.out (by omega) _ _) (by omega) _ _⟩
  case pos =>
  have GG := CG.out kk
  have HG : Hid (∀ W', Below w.heap.size w W' → Calls Try.prog 54 #[.agg #[.slice wa W.length wc, .int .i64 t, .slice ca n cc], .int .i64 i] W' fun e w' => ∃ v', e = .returned (.tuple #[v', .bool (gB W t n E i)]) ∧ Arr W'.heap.size w'.heap.size w' v' (gS W t n E i) (gD W t n E i) ∧ Below W'.heap.size W' w') := GG
  have x0 := X2.out.c0
  have x1 := X2.out.c1
  have x2 := X2.out.c2
  clear GG CG CK
  rw [kk]
  go_wp2_with fail
  refine (HG.out _ B2.out).mono ?_
  rintro r w3 ⟨v3, rfl, hA, hb⟩
  obtain ⟨ax, cx, ay, cy, rfl, _⟩ := hA.arrI
  have A3 : Hid (Arr w2.heap.size w3.heap.size w3 (.agg #[.slice ax (gS W t n E i).length cx, .slice ay (gD W t n E i).length cy]) (gS W t n E i) (gD W t n E i)) := hA
  have B3 : Hid (Below w.heap.size w w3) := bTrans B2.out hb
  have Y3 : Hid (Box w3 (w.heap.size + 1) (.slice none 0 0) (.slice none 0 0) 45) := Y2.out.keep hb
  have S2 := Y2.out.lt
  have S3 := hb.size
  clear hA hb x0 x1 x2
  have r0 := Y3.out.c0
  have r1 := Y3.out.c1
  have f0 : w3.frozen? ⟨w.heap.size + 1, 0, none⟩ = false := free_at Y3.out 0
  have f1 : w3.frozen? ⟨w.heap.size + 1, 1, none⟩ = false := free_at Y3.out 1
  go_wp2
  refine bodyPost_ret (results_arr_tmp Try.results29 _ _ (w.heap.size + 1) _ _ rfl (arr_stored Y3.out)) rfl ?_
  refine ⟨_, rfl, ?_, below_setCell (below_setCell B3.out (by omega) _ _) (by omega) _ _⟩
  exact ((A3.out.setCell S2 _ _).setCell S2 _ _).mono (by omega) (by simp [size_setCell])
end Go.Proofs.Ytfmfppndcbmohaa
