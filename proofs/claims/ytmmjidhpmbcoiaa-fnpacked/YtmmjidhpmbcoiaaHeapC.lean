/-
  Lists of cells copied: by append to an empty list, and by copy.
-/
import Derived.Test.YtmmjidhpmbcoiaaHeapF
import Derived.Test.YtmmjidhpmbcoiaaAppend
import Derived.Test.YtmmjidhpmbcoiaaImplArr2
namespace Go.Proofs.Ytmmjidhpmbcoiaa
open Go.RowKit
set_option linter.unusedVariables false
set_option linter.unusedSimpArgs false
theorem sizeBelowH {w w' : World} (h : Below w.heap.size w w') : w.heap.size ≤ w'.heap.size := h.size
/-- The words of memory of n cells. -/
def cvs (E : Nat → Cel) : Nat → List Value
  | 0 => []
  | n + 1 => cvs E n ++ [.int .i64 (E n).f, .int .i64 (E n).l, .bool (E n).v]
theorem cvs_len (E : Nat → Cel) : ∀ n, (cvs E n).length = n * 3
  | 0 => rfl
  | n + 1 => by simp [cvs, cvs_len E n]; omega
theorem cvs_at (E : Nat → Cel) : ∀ (n i : Nat), i < n → (cvs E n)[i * 3]? = some (.int .i64 (E i).f) ∧ (cvs E n)[i * 3 + 1]? = some (.int .i64 (E i).l) ∧ (cvs E n)[i * 3 + 2]? = some (.bool (E i).v)
  | 0, i, h => absurd h (by omega)
  | n + 1, i, h => by
    have hl := cvs_len E n
    by_cases e : i = n
    · subst e
      simp only [cvs]
      refine ⟨?_, ?_, ?_⟩
      · rw [List.getElem?_append_right (by omega), hl, Nat.sub_self]; rfl
      · rw [List.getElem?_append_right (by omega), hl, show i * 3 + 1 - i * 3 = 1 by omega]; rfl
      · rw [List.getElem?_append_right (by omega), hl, show i * 3 + 2 - i * 3 = 2 by omega]; rfl
    · obtain ⟨h1, h2, h3⟩ := cvs_at E n i (by omega)
      simp only [cvs]
      refine ⟨?_, ?_, ?_⟩
      · rw [List.getElem?_append_left (by omega)]; exact h1
      · rw [List.getElem?_append_left (by omega)]; exact h2
      · rw [List.getElem?_append_left (by omega)]; exact h3
theorem cvs_one (E : Nat → Cel) : ∀ (n : Nat) (v : Value), v ∈ cvs E n → v.oneCell' = true
  | 0, v, h => by cases h
  | n + 1, v, h => by
    simp only [cvs, List.mem_append, List.mem_cons, List.not_mem_nil, or_false] at h
    rcases h with h | rfl | rfl | rfl
    · exact cvs_one E n v h
    · rfl
    · rfl
    · rfl
theorem cvs_src {w : World} {o off n : Nat} {E : Nat → Cel} (h : ∀ i, i < n → w.cell? ⟨o, off + i * 3, none⟩ = some (.int .i64 (E i).f) ∧ w.cell? ⟨o, off + i * 3 + 1, none⟩ = some (.int .i64 (E i).l) ∧ w.cell? ⟨o, off + i * 3 + 2, none⟩ = some (.bool (E i).v)) (j : Nat) (u : Value) (hu : (cvs E n)[j]? = some u) : w.cell? ((⟨o, off, none⟩ : Addr).add j) = some u := by
  have e : (⟨o, off, none⟩ : Addr).add j = ⟨o, off + j, none⟩ := by unfold Addr.add; split <;> simp_all
  have hj : j < n * 3 := by have := (List.getElem?_eq_some_iff.1 hu).1; rw [cvs_len] at this; exact this
  rw [e]
  have : j % 3 = 0 ∨ j % 3 = 1 ∨ j % 3 = 2 := by omega
  rcases this with q | q | q
  · obtain ⟨i, rfl⟩ : ∃ i, j = i * 3 := ⟨j / 3, by omega⟩
    rw [(cvs_at E n i (by omega)).1] at hu
    cases hu; exact (h i (by omega)).1
  · obtain ⟨i, rfl⟩ : ∃ i, j = i * 3 + 1 := ⟨j / 3, by omega⟩
    rw [(cvs_at E n i (by omega)).2.1] at hu
    cases hu; exact (h i (by omega)).2.1
  · obtain ⟨i, rfl⟩ : ∃ i, j = i * 3 + 2 := ⟨j / 3, by omega⟩
    rw [(cvs_at E n i (by omega)).2.2] at hu
    cases hu; exact (h i (by omega)).2.2
theorem src_cells {w : World} {a : Option Addr} {n : Nat} {E : Nat → Cel} (h : CsA w a n E) (c : Nat) : Src Try.prog 3 26 (.slice a n c) n (cvs E n) w := by
  by_cases h0 : n = 0
  · subst h0
    cases a with
    | none => exact Src.ofNil w Try.underlying26 c
    | some x => exact Src.ofSlice w Try.underlying26 x 0 c [] rfl (by simp) (by simp)
  · rcases h with h | ⟨o, off, rfl, ho, hc⟩
    · exact absurd h h0
    · exact Src.ofSlice w Try.underlying26 ⟨o, off, none⟩ n c _ (cvs_len E n) (cvs_src hc) (cvs_one E n)
theorem cblk_of {w : World} {g n : Nat} {E : Nat → Cel} {A : Array Value} {t : TypeId} (h : w.heap[g]? = some (.cells A t (0, 0))) (hA : ∀ j, j < n * 3 → A[j]? = (cvs E n)[j]?) : CBlk w g n E := by
  refine ⟨A, t, h, fun i hi => ?_⟩
  obtain ⟨h1, h2, h3⟩ := cvs_at E n i hi
  exact ⟨by rw [hA _ (by omega)]; exact h1, by rw [hA _ (by omega)]; exact h2, by rw [hA _ (by omega)]; exact h3⟩
theorem append_newC {w : World} {a : Option Addr} {n : Nat} {E : Nat → Cel} (h : CsA w a n E) (hn : n ≤ 1048576) (b o c : Nat) :
    ∃ v w', (∀ ty, (Builtin.append_ #[26, 26] ty #[.slice (some ⟨b, o, none⟩) 0 0, .slice a n c]).run Try.prog w = .ok v w') ∧ CPiece w.heap.size w'.heap.size w' v n E ∧ Below w.heap.size w w' := by
  have hi := info_cell
  cases hq : Try.prog.info? 47 with
  | none => rw [hq] at hi; cases hi
  | some i =>
    rw [hq] at hi
    simp at hi
    obtain ⟨z1, z2, z3⟩ := hi
    have hs := src_cells h c
    rw [← z2] at hs
    by_cases h0 : n = 0
    · subst h0
      refine ⟨.slice (some ⟨b, o, none⟩) 0 0, w, fun ty => ?_, ⟨_, 0, rfl, by simp, .inl rfl⟩, Below.refl _ _⟩
      have q := run_append_room_src w 26 26 ty 47 i Try.underlying26 hq b o 0 0 _ 0 [] hs (by omega) (by simp) (by simp)
      rw [setCells_nil] at q
      exact q
    · refine ⟨_, _, fun ty => run_append_grow_src w 26 26 ty 47 i _ Try.underlying26 hq z1 (some ⟨b, o, none⟩) 0 0 [] (by simp [Builtin.firstCells, loadCells, loadCellsFrom]) _ n _ hs (by omega) (by omega) (growslice_fits (by omega) (by rw [z3]; omega)), ?_, ?_⟩
      · refine ⟨_, _, by rw [Nat.zero_add], by exact grownCap_ge w n 0 47, .inr ⟨w.heap.size, rfl, Nat.le_refl _, by simp, cblk_of (heap_alloc_new w.drew _) fun j hj => ?_⟩⟩
        have hl := cvs_len E n
        rw [Array.getElem?_append_left (by simpa [hl] using hj)]
        simp
      · exact bAlloc ((Below.refl _ _).drew) _
/-- A copy by append, as one step of a region that draws its order. -/
theorem step_append_newC {ops : Array Oper} {o : Oper} {a : Act} {w : World} {K : Act → World → Prop} {Q : Exit → Act → World → Prop} {X : Prop} (hgd : o.guard = none) (s x : Operand)
    (ho : o.op = .call { callee := .builtin .append, args := #[s, x], argTypes := #[26, 26] }) (b o' c : Nat) (ad : Option Addr) (n : Nat) (E : Nat → Cel) (hs : a.eval s = .slice (some ⟨b, o', none⟩) 0 0) (hx : a.eval x = .slice ad n c) (h : CsA w ad n E) (hn : n ≤ 1048576)
    (hK : ∀ a' c' w', CPiece w.heap.size w'.heap.size w' (.slice a' n c') n E → Below w.heap.size w w' → K (a.put o.dst (.slice a' n c')) w') :
    if Region.wanted o (yielded ops a.tmps) = true then Oper.wp Try.prog o a w K Q else X := by
  have hw : Region.wanted o (yielded ops a.tmps) = true := by simp [Region.wanted, hgd]
  rw [if_pos hw]
  obtain ⟨v, w', hrun, hp, hb⟩ := append_newC h hn b o' c
  obtain ⟨a', c', rfl, _⟩ := hp.csI
  unfold Oper.wp
  simp [execOp, ho, resolve, invoke, builtin, hs, hx, hrun, Result.andThen]
  exact hK _ _ _ hp hb
theorem setRow_blk {w : World} {g : Nat} {cur cs : Array Value} {t : TypeId} (h : w.heap[g]? = some (.cells cur t (0, 0))) : (w.setRow g cs).heap[g]? = some (.cells cs t (0, 0)) := by
  simp only [World.setRow, Array.getElem?_modify, if_true, h, Option.map_some]
theorem setRow_win (w : World) (g : Nat) (cs : Array Value) : Win g (g + 1) w (w.setRow g cs) :=
  ⟨rfl, rfl, rfl, by simp [World.setRow], fun k hk hd => by simp only [World.setRow, Array.getElem?_modify]; rw [if_neg (by omega)]⟩
set_option maxRecDepth 20000 in
/-- Out of a list into a new one of its length. -/
theorem copy_cells {w : World} {a : Option Addr} {n g c : Nat} {E E' : Nat → Cel} (h1 : CsA w a n E) (hg : CBlk w g n E') (ty : TypeId) :
    ∃ w', (Builtin.copy_ #[26, 26] ty #[.slice (some ⟨g, 0, none⟩) n n, .slice a n c]).run Try.prog w = .ok (.int .i64 n) w' ∧ CBlk w' g n E ∧ Win g (g + 1) w w' := by
  obtain ⟨cur, t, hcur, hall⟩ := hg
  have hs3 : (Try.prog.info? 47).map (·.size) = some 3 := by kernel_rfl
  by_cases h0 : n = 0
  · subst h0
    refine ⟨w, ?_, ⟨cur, t, hcur, fun i hi => absurd hi (by omega)⟩, Win.refl _ _ _⟩
    cases hq : Try.prog.info? 47 with
    | none => simp [hq] at hs3
    | some i =>
      have hi : i.size = 3 := by simpa [hq] using hs3
      cases a with
      | none => simp [Builtin.copy_, run_underlying Try.underlying26, Builtin.lenOf, Builtin.firstCells, sizeOf, typeInfo, hq, hi, storeCells, goInt]
      | some x => simp [Builtin.copy_, run_underlying Try.underlying26, Builtin.lenOf, Builtin.firstCells, sizeOf, typeInfo, hq, hi, loadCells, loadCellsFrom, storeCells, goInt]
  · rcases h1 with h1 | ⟨o, off, rfl, ho, hc⟩
    · exact absurd h1 h0
    · have hl := run_loadCells_list (P := Try.prog) w ⟨o, off, none⟩ (cvs E n) (cvs_src hc)
      have hsz : n * 3 ≤ cur.size := by
        have := (Array.getElem?_eq_some_iff.1 (hall (n - 1) (by omega)).2.2).1
        omega
      have hst := run_storeCells_at Try.prog g 0 t (cvs E n) 0 cur w hcur (by rw [cvs_len]; omega) (cvs_one E n)
      have hlen := cvs_len E n
      refine ⟨w.setRow g (cur.toList.take 0 ++ cvs E n ++ cur.toList.drop (0 + (cvs E n).length)).toArray, ?_, ?_, ?_⟩
      · cases hq : Try.prog.info? 47 with
        | none => simp [hq] at hs3
        | some i =>
          have hi : i.size = 3 := by simpa [hq] using hs3
          simp only [hlen] at hl hst
          simp [Builtin.copy_, run_underlying Try.underlying26, Builtin.lenOf, Builtin.firstCells, sizeOf, typeInfo, hq, hi, hl, hst]
          exact ⟨rfl, by rw [hlen]⟩
      · refine cblk_of (setRow_blk hcur) fun j hj => ?_
        rw [List.getElem?_toArray, List.take_zero, List.nil_append, List.getElem?_append_left (by omega)]
      · exact setRow_win _ _ _
set_option maxRecDepth 20000 in
set_option maxHeartbeats 4000000 in
/-- copiedList, of cells. -/
theorem copiedC_impl {w : World} {a : Option Addr} {n c : Nat} {E : Nat → Cel} (h : CsA w a n E) (hn : n ≤ 1048576) :
    Calls Try.prog 78 #[.slice a n c] w fun e w' => ∃ a' c', e = .returned (.slice a' n c') ∧ CPiece w.heap.size w'.heap.size w' (.slice a' n c') n E ∧ Below w.heap.size w w' := by
  obtain ⟨w1, r1, t1, s1, b1⟩ := make_cells n hn w
  obtain ⟨w2, r2, t2, b2⟩ := copy_cells (c := c) (h.keep b1) t1 3
  have F : Hid (CBlk w2 w.heap.size n E ∧ Below w.heap.size w w2) := ⟨t2, b1.trans (b2.below (Nat.le_refl _) (by omega))⟩
  clear h t1 s1 b1 t2 b2
  go_enter Try.func78, Try.ntmps78
  go_wp2
  go_ret
  exact ⟨_, _, rfl, ⟨_, _, rfl, Nat.le_refl _, .inr ⟨_, rfl, Nat.le_refl _, F.out.1.lt, F.out.1⟩⟩, F.out.2⟩
set_option maxRecDepth 20000 in
set_option maxHeartbeats 8000000 in
/-- l13Copy. -/
theorem heapCopy_spec {w : World} {v : Value} {W : List Int} {t : Int} {n : Nat} {E : Nat → Cel} (h : HI w v W t n E) (hW : W.length ≤ 1048576) (hn : n ≤ 1048576) :
    Calls Try.prog 54 #[v] w fun e w' => ∃ v', e = .returned v' ∧ HP w.heap.size w'.heap.size w' v' W t n E ∧ Below w.heap.size w w' := by
  obtain ⟨wa, wc, ca, cc, rfl, h1, h2, h3, h4⟩ := h
  have H1 : Hid (Ints w wa W) := h1
  have H1c : Hid (W.length ≤ wc) := h2
  have H3 : Hid (CsA w ca n E) := h3
  have HN : Hid (n ≤ 1048576) := hn
  have HW : Hid (W.length ≤ 1048576) := hW
  clear h1 h2 h3 h4 hW hn
  go_enter Try.func54, Try.ntmps54
  go_wp2
  generalize hV : (w.alloc (.cells #[.slice wa W.length wc, .int .i64 t, .slice ca n cc] 28)).alloc (.cells #[.slice none 0 0, .int .i64 0, .slice none 0 0] 28) = V
  have HBW : Hid (Below w.heap.size w V) := by rw [← hV]; exact bAlloc (bAlloc (Below.refl _ _) _) _
  have X : Hid (Box3 V w.heap.size (.slice wa W.length wc) (.int .i64 t) (.slice ca n cc) 28) := by rw [← hV]; exact (box3_new _ _ _ _ _).alloc _
  have Y : Hid (Box3 V (w.heap.size + 1) (.slice none 0 0) (.int .i64 0) (.slice none 0 0) 28) := by
    have := box3_new (w.alloc (.cells #[.slice wa W.length wc, .int .i64 t, .slice ca n cc] 28)) (.slice none 0 0) (.int .i64 0) (.slice none 0 0) 28
    show Box3 _ _ _ _ _ _
    rw [← hV]; simpa using this
  have LW : Hid (w.heap.size + 1 < V.heap.size) := Y.out.lt
  clear hV
  have w0 := X.out.c0
  have w1 := X.out.c1
  have w2 := X.out.c2
  have nw0 := World.new_ne V ⟨w.heap.size, 0, none⟩ w0
  have nw1 := World.new_ne V ⟨w.heap.size, 1, none⟩ w1
  have nw2 := World.new_ne V ⟨w.heap.size, 2, none⟩ w2
  go_region_held3 (fun w' => w'.cell? ⟨w.heap.size, 0, none⟩ = some (.slice wa W.length wc) ∧ w'.cell? ⟨w.heap.size, 1, none⟩ = some (.int .i64 t) ∧ w'.cell? ⟨w.heap.size, 2, none⟩ = some (.slice ca n cc))
    (first | exact ⟨y0, y1, y2⟩ | exact ⟨x0, x1, x2⟩ | exact ⟨w0, w1, w2⟩ | go_keep)
    (first
      | (refine step_append_newI (by rfl) (.tmp 3) (.tmp 5) (by rfl) _ _ _ _ W (by rfl) (by rfl) (H1.out.keep (bTrans HBW.out (by repeat first | exact (Below.refl _ _).drew | exact BX.out | exact Below.refl _ _ | refine bAlloc ?_ _ | refine Below.drew ?_))) HW.out ?_; intro ax cx wx hpx hbx; have BX : Hid (Below V.heap.size V wx) := bTrans (by repeat first | exact (Below.refl _ _).drew | exact BX.out | exact Below.refl _ _ | refine bAlloc ?_ _ | refine Below.drew ?_) hbx; have PX : Hid (Piece V.heap.size wx.heap.size wx (.slice ax W.length cx) W) := hpx.mono (sizeBelowH (w := V) (by repeat first | exact (Below.refl _ _).drew | exact BX.out | exact Below.refl _ _ | refine bAlloc ?_ _ | refine Below.drew ?_)) (Nat.le_refl _); have x0 := (X.out.keep BX.out).c0; have x1 := (X.out.keep BX.out).c1; have x2 := (X.out.keep BX.out).c2; have nx0 := World.new_ne wx ⟨w.heap.size, 0, none⟩ x0; have nx1 := World.new_ne wx ⟨w.heap.size, 1, none⟩ x1; have nx2 := World.new_ne wx ⟨w.heap.size, 2, none⟩ x2; clear hpx hbx)
      | (refine step_append_newC (by rfl) (.tmp 9) (.tmp 11) (by rfl) _ _ _ _ n E (by rfl) (by rfl) (H3.out.keep (bTrans HBW.out (by repeat first | exact (Below.refl _ _).drew | exact BX.out | exact Below.refl _ _ | refine bAlloc ?_ _ | refine Below.drew ?_))) HN.out ?_; intro ay cy wy hpy hby; have BQ : Hid (Below wx.heap.size wx wy) := bTrans (by repeat first | exact Below.refl _ _ | refine bAlloc ?_ _ | refine Below.drew ?_) hby; have BY : Hid (Below V.heap.size V wy) := bTrans BX.out BQ.out; have PX2 : Hid (Piece V.heap.size wx.heap.size wy (.slice ax W.length cx) W) := PX.out.keep BQ.out; have PY : Hid (CPiece wx.heap.size wy.heap.size wy (.slice ay n cy) n E) := hpy.mono (sizeBelowH (w := wx) (by repeat first | exact Below.refl _ _ | refine bAlloc ?_ _ | refine Below.drew ?_)) (Nat.le_refl _); have S12 : Hid (wx.heap.size ≤ wy.heap.size) := BQ.out.size; have y0 := (X.out.keep BY.out).c0; have y1 := (X.out.keep BY.out).c1; have y2 := (X.out.keep BY.out).c2; have qy0 := (Y.out.keep BY.out).c0; have qy1 := (Y.out.keep BY.out).c1; have qy2 := (Y.out.keep BY.out).c2; have fy0 := (Y.out.keep BY.out).free 0; have fy1 := (Y.out.keep BY.out).free 1; have fy2 := (Y.out.keep BY.out).free 2; clear hpy hby))
  all_goals
    go_wp2
    generalize hZ : (((wy.setCell ⟨w.heap.size + 1, 0, none⟩ (.slice ax W.length cx)).setCell ⟨w.heap.size + 1, 1, none⟩ (.int .i64 t)).setCell ⟨w.heap.size + 1, 2, none⟩ (.slice ay n cy)) = wz
    have YZ : Box3 wz (w.heap.size + 1) (.slice ax W.length cx) (.int .i64 t) (.slice ay n cy) 28 := by rw [← hZ]; exact (((Y.out.keep BY.out).set0 _).set1 _).set2 _
    have WZ : Hid (Win (w.heap.size + 1) (w.heap.size + 1 + 1) wy wz) := by rw [← hZ]; exact (((win_setCell _ _ _ _).trans (win_setCell _ _ _ _)).trans (win_setCell _ _ _ _))
    have BZ : Hid (Below w.heap.size w wz) := by rw [← hZ]; exact below_setCell (below_setCell (below_setCell (bTrans HBW.out BY.out) (by omega) _ _) (by omega) _ _) (by omega) _ _
    have v0 := YZ.c0
    have v1 := YZ.c1
    have v2 := YZ.c2
    clear hZ YZ
    refine bodyPost_ret (v := .agg #[.slice ax W.length cx, .int .i64 t, .slice ay n cy]) (by simp [results, Try.results54, go_sem, v0, v1, v2]) rfl ?_
    have S1 := LW.out
    have S2 := BX.out.size
    have S3 := S12.out
    have S4 := WZ.out.size
    exact ⟨_, rfl, ⟨_, _, wx.heap.size, rfl, by omega, by omega, (PX2.out.win WZ.out (.inr (by omega))).mono (by omega) (Nat.le_refl _), (PY.out.win WZ.out (.inr (by omega))).mono (Nat.le_refl _) S4⟩, BZ.out⟩
set_option maxRecDepth 20000 in
set_option maxHeartbeats 8000000 in
/-- copied. -/
theorem heapCopy_impl {w : World} {v : Value} {W : List Int} {t : Int} {n : Nat} {E : Nat → Cel} (h : HI w v W t n E) (hW : W.length ≤ 1048576) (hn : n ≤ 1048576) :
    Calls Try.prog 45 #[v] w fun e w' => ∃ v', e = .returned v' ∧ HP w.heap.size w'.heap.size w' v' W t n E ∧ Below w.heap.size w w' := by
  obtain ⟨wa, wc, ca, cc, rfl, h1, h2, h3, h4⟩ := h
  have H1 : Hid (Ints w wa W) := h1
  have H1c : Hid (W.length ≤ wc) := h2
  have H3 : Hid (CsA w ca n E) := h3
  have HN : Hid (n ≤ 1048576) := hn
  have HW : Hid (W.length ≤ 1048576) := hW
  clear h1 h2 h3 h4 hW hn
  go_enter Try.func45, Try.ntmps45
  go_wp2
  generalize hV : (w.alloc (.cells #[.slice wa W.length wc, .int .i64 t, .slice ca n cc] 28)).alloc (.cells #[.slice none 0 0, .int .i64 0, .slice none 0 0] 28) = V
  have HBW : Hid (Below w.heap.size w V) := by rw [← hV]; exact bAlloc (bAlloc (Below.refl _ _) _) _
  have X : Hid (Box3 V w.heap.size (.slice wa W.length wc) (.int .i64 t) (.slice ca n cc) 28) := by rw [← hV]; exact (box3_new _ _ _ _ _).alloc _
  have Y : Hid (Box3 V (w.heap.size + 1) (.slice none 0 0) (.int .i64 0) (.slice none 0 0) 28) := by
    have := box3_new (w.alloc (.cells #[.slice wa W.length wc, .int .i64 t, .slice ca n cc] 28)) (.slice none 0 0) (.int .i64 0) (.slice none 0 0) 28
    show Box3 _ _ _ _ _ _
    rw [← hV]; simpa using this
  have LW : Hid (w.heap.size + 1 < V.heap.size) := Y.out.lt
  clear hV
  have w0 := X.out.c0
  have w1 := X.out.c1
  have w2 := X.out.c2
  go_region_held3 (fun w' => w'.cell? ⟨w.heap.size, 0, none⟩ = some (.slice wa W.length wc) ∧ w'.cell? ⟨w.heap.size, 1, none⟩ = some (.int .i64 t) ∧ w'.cell? ⟨w.heap.size, 2, none⟩ = some (.slice ca n cc))
    (first | exact ⟨z0 _ _ _, z1 _ _ _, z2 _ _ _⟩ | exact ⟨y0, y1, y2⟩ | exact ⟨x0, x1, x2⟩ | exact ⟨w0, w1, w2⟩)
    (first
      | (go_at_call 77; refine (copied_new ⟨_, _, rfl, H1c.out, H1.out.keep (bTrans HBW.out ((Below.refl V.heap.size V).drew))⟩ HW.out).mono ?_; rintro r wx ⟨ax, cx, rfl, ha, hb⟩; have PX : Hid (Piece V.heap.size wx.heap.size wx (.slice ax W.length cx) W) := ha; have BX : Hid (Below V.heap.size V wx) := bTrans ((Below.refl V.heap.size V).drew) hb; have x0 := (X.out.keep BX.out).c0; have x1 := (X.out.keep BX.out).c1; have x2 := (X.out.keep BX.out).c2; clear ha hb)
      | (go_at_call 78; refine (copiedC_impl (H3.out.keep (bTrans HBW.out BX.out)) HN.out).mono ?_; rintro r wy ⟨ay, cy, rfl, ha, hb⟩; have PY : Hid (CPiece wx.heap.size wy.heap.size wy (.slice ay n cy) n E) := ha; have PX2 : Hid (Piece V.heap.size wx.heap.size wy (.slice ax W.length cx) W) := PX.out.keep hb; have S12 : Hid (wx.heap.size ≤ wy.heap.size) := hb.size; have BY : Hid (Below V.heap.size V wy) := bTrans BX.out hb; have y0 := (X.out.keep BY.out).c0; have y1 := (X.out.keep BY.out).c1; have y2 := (X.out.keep BY.out).c2; have z0 : ∀ a b c : Value, (((wy.setCell ⟨w.heap.size + 1, 0, none⟩ a).setCell ⟨w.heap.size + 1, 1, none⟩ b).setCell ⟨w.heap.size + 1, 2, none⟩ c).cell? ⟨w.heap.size, 0, none⟩ = some (.slice wa W.length wc) := fun a b c => (((((X.out.keep BY.out).other (by omega) a).other (by omega) b)).other (by omega) c).c0; have z1 : ∀ a b c : Value, (((wy.setCell ⟨w.heap.size + 1, 0, none⟩ a).setCell ⟨w.heap.size + 1, 1, none⟩ b).setCell ⟨w.heap.size + 1, 2, none⟩ c).cell? ⟨w.heap.size, 1, none⟩ = some (.int .i64 t) := fun a b c => (((((X.out.keep BY.out).other (by omega) a).other (by omega) b)).other (by omega) c).c1; have z2 : ∀ a b c : Value, (((wy.setCell ⟨w.heap.size + 1, 0, none⟩ a).setCell ⟨w.heap.size + 1, 1, none⟩ b).setCell ⟨w.heap.size + 1, 2, none⟩ c).cell? ⟨w.heap.size, 2, none⟩ = some (.slice ca n cc) := fun a b c => (((((X.out.keep BY.out).other (by omega) a).other (by omega) b)).other (by omega) c).c2; have qy0 := (Y.out.keep BY.out).c0; have qy1 := (Y.out.keep BY.out).c1; have qy2 := (Y.out.keep BY.out).c2; have fy0 := (Y.out.keep BY.out).free 0; have fy1 := (Y.out.keep BY.out).free 1; have fy2 := (Y.out.keep BY.out).free 2; clear ha hb))
  all_goals
    go_wp2
    generalize hZ : (((wy.setCell ⟨w.heap.size + 1, 0, none⟩ (.slice ax W.length cx)).setCell ⟨w.heap.size + 1, 1, none⟩ (.int .i64 t)).setCell ⟨w.heap.size + 1, 2, none⟩ (.slice ay n cy)) = wz
    have YZ : Box3 wz (w.heap.size + 1) (.slice ax W.length cx) (.int .i64 t) (.slice ay n cy) 28 := by rw [← hZ]; exact (((Y.out.keep BY.out).set0 _).set1 _).set2 _
    have WZ : Hid (Win (w.heap.size + 1) (w.heap.size + 1 + 1) wy wz) := by rw [← hZ]; exact (((win_setCell _ _ _ _).trans (win_setCell _ _ _ _)).trans (win_setCell _ _ _ _))
    have BZ : Hid (Below w.heap.size w wz) := by rw [← hZ]; exact below_setCell (below_setCell (below_setCell (bTrans HBW.out BY.out) (by omega) _ _) (by omega) _ _) (by omega) _ _
    have v0 := YZ.c0
    have v1 := YZ.c1
    have v2 := YZ.c2
    clear hZ YZ
    refine bodyPost_ret (v := .agg #[.slice ax W.length cx, .int .i64 t, .slice ay n cy]) (by simp [results, Try.results45, go_sem, v0, v1, v2]) rfl ?_
    have S1 := LW.out
    have S2 := BX.out.size
    have S3 := S12.out
    have S4 := WZ.out.size
    exact ⟨_, rfl, ⟨_, _, wx.heap.size, rfl, by omega, by omega, (PX2.out.win WZ.out (.inr (by omega))).mono (by omega) (Nat.le_refl _), (PY.out.win WZ.out (.inr (by omega))).mono (Nat.le_refl _) S4⟩, BZ.out⟩
end Go.Proofs.Ytmmjidhpmbcoiaa
