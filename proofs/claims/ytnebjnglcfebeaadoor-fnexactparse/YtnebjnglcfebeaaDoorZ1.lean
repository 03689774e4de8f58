/-
  Several walks, one behind the other: TokS, ParS8, TreeP, TokK, ParI9, ParJ, ParK.
-/
import Derived.Test.YtnebjnglcfebeaaDoorTokW
import Derived.Laws.BytesArg
import Derived.Test.YtnebjnglcfebeaaDoorParS7
import Derived.Test.YtnebjnglcfebeaaDoorTreeX
import Derived.Test.YtnebjnglcfebeaaDoorParI8
import Derived.Test.YtnebjnglcfebeaaDoorTokOk
import Derived.Defers
import Derived.Recover
import Derived.RegionDies
import Derived.Laws.Pointers
namespace Go.Proofs.YtnebjnglcfebeaaDoor
open Go.RowKit
set_option linter.unusedVariables false
set_option linter.unusedSimpArgs false
set_option maxRecDepth 20000 in
set_option maxHeartbeats 4000000 in
theorem tokens_spec {w : World} {a : Option Addr} {n c : Nat} {E : Nat → Spn} (h : SsA w a n E) (hn : n ≤ 1048576) :
    Calls Tryd.prog 17 #[.slice a n c] w fun e w' => e = .returned (.bool (tokR n E)) ∧ Below w.heap.size w w' := by
  have H : Hid (SsA w a n E) := h
  have ER : Hid (tokAll E n = true → tokR n E = decide ((n : Int) ≤ 300)) := fun h => by
    unfold tokR
    rw [h, Bool.true_and]
    by_cases e : n ≤ 300
    · rw [decide_eq_true e, decide_eq_true (by omega)]
    · rw [decide_eq_false e, decide_eq_false (by omega)]
  have EF : Hid (tokAll E n = false → tokR n E = false) := fun h => by unfold tokR; rw [h]; rfl
  clear h
  go_enter Tryd.func17, Tryd.ntmps17
  go_wp2
  go_loopw [3] (fun i w' => ∃ k : Nat, k ≤ n ∧ i = .int .i64 (k : Int) ∧ tokAll E k = true ∧ Below w.heap.size w w') (fun i _ => n - (intOf i).toNat)
  case atStart => exact ⟨0, by omega, rfl, rfl, Below.refl _ _⟩
  case round =>
    obtain ⟨k, hk, rfl, ha, hb⟩ := hrel
    have HA : Hid (tokAll E k = true) := ha
    have HB : Hid (Below w.heap.size w wr) := hb
    clear ha hb
    by_cases hlt : (k : Int) < (n : Int)
    · have L : k < n := by omega
      obtain ⟨o, off, rfl, ho, p0, p1⟩ := (H.out.keep HB.out).at L
      have NO : Hid (tokB (E k).f (E k).t = false → tokR n E = false) := fun h => EF.out (tokAll_no L h)
      have YES : Hid (tokB (E k).f (E k).t = true → tokAll E (k + 1) = true) := fun h => tokAll_next HA.out h
      have CT : Hid (∀ W, Calls Tryd.prog 33 #[.agg #[.int .i64 (E k).f, .int .i64 (E k).t]] W fun e w' => e = .returned (.bool (tokB (E k).f (E k).t)) ∧ Below W.heap.size W w') := fun W => tokOk_spec _ _ W
      clear ho
      generalize (E k).f = e0 at *
      generalize (E k).t = e1 at *
      generalize tokB e0 e1 = q at *
      go_wp2_with fail
      refine (CT.out _).mono ?_
      rintro r w2 ⟨rfl, hb⟩
      have B2 : Hid (Below w.heap.size w w2) := bTrans HB.out hb
      clear hb CT p0 p1
      cases q
      · go_wp2
        go_ret
        exact ⟨by rw [NO.out (by trivial)]; rfl, B2.out⟩
      · go_wp2
        go_roundw
        case rel => exact ⟨k + 1, by omega, by go_num, YES.out (by trivial), B2.out⟩
        case measure => simp [intOf]; omega
    · obtain rfl : k = n := by omega
      go_wp2
      go_ret
      exact ⟨by rw [ER.out HA.out]; rfl, HB.out⟩
end Go.Proofs.YtnebjnglcfebeaaDoor
namespace Go.Proofs.YtnebjnglcfebeaaDoor
open Go.RowKit
set_option linter.unusedVariables false
set_option linter.unusedSimpArgs false
/-- l9Line. -/
theorem line_spec {n c : Nat} {T : Nat → Spn} {a : Option Addr} (ha : tokAll T n = true) (hn : n ≤ 300) : ∀ k, LineIH n T a c k
  | 0 => fun W g p v L _ _ _ hp hk _ => by omega
  | k + 1 => fun W g p v L hc hl ht hp hk hL => by
    by_cases e1 : tkK n T p = 2 ∧ tkK n T (p + 1) = 6
    · exact lineA (line_spec ha hn k) ha hn hc hl ht hp (by omega) hL e1.1 e1.2
    · by_cases e3 : tkK n T p = 3
      · exact lineB (line_spec ha hn k) ha hn hc hl ht hp (by omega) hL e3
      · exact lineC (line_spec ha hn k) ha hn hc hl ht hp (by omega) hL e1 e3
def ndE (l : List Nd) (i j : Nat) : Int := match j with
  | 0 => (l.getD i nb0.1).k
  | 1 => (l.getD i nb0.1).a
  | 2 => (l.getD i nb0.1).b
  | 3 => (l.getD i nb0.1).s
  | 4 => (l.getD i nb0.1).o
  | _ => (l.getD i nb0.1).h
def ndN (l : List Nd) (i : Nat) : List Int := (l.getD i nb0.1).l
theorem map_getD (L : List Nb) (i : Nat) : (L.map (fun z => z.1)).getD i nb0.1 = (L.getD i nb0).1 := by
  simp only [List.getD_eq_getElem?_getD, List.getElem?_map]
  cases L[i]? <;> rfl
theorem NL.exprs {g : Nat} {w : World} {v : Value} {L : List Nb} (h : NL g w v L) : ExprsI w v L.length (ndE (L.map (fun z => z.1))) (ndN (L.map (fun z => z.1))) := by
  obtain ⟨a, c, e⟩ := h.row.slice
  subst e
  refine ⟨a, c, rfl, ?_⟩
  by_cases h0 : L.length = 0
  · exact .inl h0
  · obtain ⟨o, e, _, ho, _⟩ := h.row.at (show 0 < L.length by omega)
    refine .inr ⟨o, 0, fun i => (L.getD i nb0).2.1, e, ho, fun i hi => ?_⟩
    obtain ⟨o', e', _, _, hc⟩ := h.row.at hi
    rw [e] at e'
    cases e'
    have hm : L.getD i nb0 ∈ L := by rw [List.getD_eq_getElem?_getD, List.getElem?_eq_getElem hi]; exact List.getElem_mem hi
    have hp := (h.nums _ hm).1
    simp only [ndE, ndN, map_getD, Nat.zero_add]
    exact ⟨⟨hc 0 _ rfl, hc 1 _ rfl, hc 2 _ rfl, hc 3 _ rfl, hc 4 _ rfl, hc 5 _ rfl, hc 6 _ rfl⟩, hp.intsI⟩
theorem results_tree_tmp {fn : Func} {p u : Tmp} (h : fn.results = #[.cell p 26, .tmp u]) (tmps : Array Value) (w : World) (g : Nat) (x : Value) (hp : tmps.getD p undef = .pointer (some ⟨g, 0, none⟩))
    (hg : w.heap[g]? = some (.cells #[x] 26 (0, 0))) : (results fn tmps).run Tryd.prog w = .ok (.tuple #[.agg #[x], tmps.getD u undef]) w := by
  rw [results_cell_tmp h, hp]
  have e : (asAddr (.pointer (some ⟨g, 0, none⟩))).run Tryd.prog w = .ok ⟨g, 0, none⟩ w := by simp [asAddr]
  have c0 : w.cell? ⟨g, 0, none⟩ = some x := cell_at hg rfl
  have l : (loadVar 26 ⟨g, 0, none⟩).run Tryd.prog w = .ok (.agg #[x]) w := by simp [loadVar, go_sem, c0]
  rw [e, Result.andThen_ok, l]
  rfl
theorem one_stored {w : World} {g : Nat} {x x' : Value} {t : TypeId} (h : w.heap[g]? = some (.cells #[x] t (0, 0))) : (w.setCell ⟨g, 0, none⟩ x').heap[g]? = some (.cells #[x'] t (0, 0)) := by
  have h1 := heap_setCell_same w g 0 _ _ x' h
  simpa using h1
theorem two_blocks (w : World) (A B : Obj) : ((w.alloc A).alloc B).heap[w.heap.size]? = some A ∧ ((w.alloc A).alloc B).heap[w.heap.size + 1]? = some B := by
  have e1 := heap_alloc_new w A
  have e2 := heap_alloc_new (w.alloc A) B
  simp only [World.size_alloc] at e2
  refine ⟨?_, e2⟩
  rw [heap_alloc_old _ _ (by simp only [World.size_alloc]; omega)]; exact e1
/-- What Parse answers, by value. -/
def ParPost (n : Nat) (T : Nat → Spn) (w : World) (e : Ending) (w' : World) : Prop :=
  ∃ (v : Value) (g : Nat) (L : List Nb), e = .returned (.tuple #[.agg #[v], .int .i64 (parC n T).1]) ∧ w.heap.size ≤ g ∧ NL g w' v L ∧ L.map (fun z => z.1) = (parC n T).2 ∧ Below w.heap.size w w'
set_option maxRecDepth 20000 in
set_option maxHeartbeats 8000000 in
/-- The specification's Parse. -/
theorem parse_spec {w : World} {a : Option Addr} {n c : Nat} {T : Nat → Spn} (h : SsA w a n T) (hn : n ≤ 1048576) :
    Calls Tryd.prog 6 #[.slice a n c] w fun e w' => ParPost n T w e w' := by
  have H : Hid (SsA w a n T) := h
  have q := two_blocks w (.cells #[.slice none 0 0] 26) (.cells #[.slice none 0 0] 26)
  have BA : Hid (Below w.heap.size w ((w.alloc (.cells #[.slice none 0 0] 26)).alloc (.cells #[.slice none 0 0] 26))) := bAlloc (bAlloc (Below.refl _ _) _) _
  have QA : Hid (((w.alloc (.cells #[.slice none 0 0] 26)).alloc (.cells #[.slice none 0 0] 26)).heap[w.heap.size]? = some (.cells #[.slice none 0 0] 26 (0, 0)) ∧ ((w.alloc (.cells #[.slice none 0 0] 26)).alloc (.cells #[.slice none 0 0] 26)).heap[w.heap.size + 1]? = some (.cells #[.slice none 0 0] 26 (0, 0))) := q
  have CT : Hid (∀ W, Below w.heap.size w W → Calls Tryd.prog 17 #[.slice a n c] W fun e w' => e = .returned (.bool (tokR n T)) ∧ Below W.heap.size W w') := fun W hb => tokens_spec (h.keep hb) hn
  clear h q
  unfold ParPost
  by_cases hr : tokR n T = true
  · have HR : Hid (tokAll T n = true ∧ n ≤ 300) := by
      unfold tokR at hr
      simp only [Bool.and_eq_true, decide_eq_true_eq] at hr
      exact hr
    have EX : Hid (parC n T = match lineP n T (n + 1) 0 with
        | none => (8, [])
        | some x => if x.2 = n then (if x.1.size ≤ 60 then (0, x.1.flat 0) else (6, [])) else (8, [])) := by show _ = _; unfold parC; rw [if_pos hr]; rfl
    rw [hr] at CT
    clear hr
    have hn3 : n ≤ 300 := HR.out.2
    have CL : Hid (∀ W, Below w.heap.size w W → Calls Tryd.prog 18 #[.pointer (some ⟨W.heap.size, 0, none⟩)] (W.alloc (.cells #[.slice a n c, .int .i64 0, .slice none 0 0] 44)) fun e w' => LinePost (.slice a n c) (W.alloc (.cells #[.slice a n c, .int .i64 0, .slice none 0 0] 44)) W.heap.size (.slice none 0 0) [] (lineP n T (n + 1) 0) e w') := fun W hb => by
      refine line_spec HR.out.1 HR.out.2 (n + 1) _ W.heap.size 0 (.slice none 0 0) [] (heap_alloc_new W _) (NL.nil _ _) ?_ (by omega) (by omega) (by simp; omega)
      have hs := H.out.keep (bTrans hb (bAlloc (Below.refl W.heap.size W) (.cells #[.slice a n c, .int .i64 0, .slice none 0 0] 44)))
      have hz := hb.size
      rcases H.out with h | ⟨o, off, e, ho, _⟩
      · exact .inl h
      · rcases hs with h | ⟨o', off', e', ho', h'⟩
        · exact .inl h
        · rw [e] at e'
          cases e'
          exact .inr ⟨o, off, e, by omega, ho', h'⟩
    cases hx : lineP n T (n + 1) 0 with
    | none =>
      rw [hx] at CL EX
      clear hx HR
      go_enter Tryd.func6, Tryd.ntmps6
      go_wp2_with fail
      refine (CT.out _ BA.out).mono ?_
      rintro r w1 ⟨rfl, hb⟩
      have B1 : Hid (Below w.heap.size w w1) := bTrans BA.out hb
      have Q1 : Hid (w1.heap[w.heap.size]? = some (.cells #[.slice none 0 0] 26 (0, 0)) ∧ w1.heap[w.heap.size + 1]? = some (.cells #[.slice none 0 0] 26 (0, 0))) := ⟨by rw [hb.block _ (lt_of_heapA QA.out.1)]; exact QA.out.1, by rw [hb.block _ (lt_of_heapA QA.out.2)]; exact QA.out.2⟩
      clear hb CT BA QA H
      have LG : Hid (w.heap.size + 1 < w1.heap.size) := lt_of_heapA Q1.out.2
      go_wp2_with fail
      refine (CL.out _ B1.out).mono ?_
      rintro r w3 ⟨rfl, hb⟩
      have B3 : Hid (Below w.heap.size w w3) := bTrans B1.out (((bAlloc (Below.refl _ _) _)).trans hb)
      have Q3 : Hid (w3.heap[w.heap.size]? = some (.cells #[.slice none 0 0] 26 (0, 0)) ∧ w3.heap[w.heap.size + 1]? = some (.cells #[.slice none 0 0] 26 (0, 0))) := by
        have hz := ((bAlloc (Below.refl w1.heap.size w1) (.cells #[.slice a n c, .int .i64 0, .slice none 0 0] 44))).trans hb
        exact ⟨by rw [hz.block _ (by have := LG.out; omega)]; exact Q1.out.1, by rw [hz.block _ LG.out]; exact Q1.out.2⟩
      clear hb CL Q1 B1
      have a0 := cell_at (k := 0) Q3.out.1 rfl
      have b0 := cell_at (k := 0) Q3.out.2 rfl
      have f0 := free_at Q3.out.1 0
      have HS : Hid _ := one_stored (x' := .slice none 0 0) Q3.out.1
      clear Q3
      go_wp2
      refine bodyPost_ret (results_tree_tmp Tryd.results6 _ _ w.heap.size _ rfl HS.out) rfl ?_
      rw [EX.out]
      exact ⟨_, w.heap.size, [], rfl, Nat.le_refl _, NL.nil _ _, rfl, below_setCell B3.out (Nat.le_refl _) _ _⟩
    | some y =>
      obtain ⟨b, q⟩ := y
      have YF : Hid (0 < q ∧ q ≤ n ∧ b.size + 0 ≤ q) := lineP_fine (n := n) (T := T) (n + 1) 0 _ hx
      rw [hx] at CL EX
      simp only at EX
      clear hx HR
      go_enter Tryd.func6, Tryd.ntmps6
      go_wp2_with fail
      refine (CT.out _ BA.out).mono ?_
      rintro r w1 ⟨rfl, hb⟩
      have B1 : Hid (Below w.heap.size w w1) := bTrans BA.out hb
      have Q1 : Hid (w1.heap[w.heap.size]? = some (.cells #[.slice none 0 0] 26 (0, 0)) ∧ w1.heap[w.heap.size + 1]? = some (.cells #[.slice none 0 0] 26 (0, 0))) := ⟨by rw [hb.block _ (lt_of_heapA QA.out.1)]; exact QA.out.1, by rw [hb.block _ (lt_of_heapA QA.out.2)]; exact QA.out.2⟩
      clear hb CT BA QA H
      have LG : Hid (w.heap.size + 1 < w1.heap.size) := lt_of_heapA Q1.out.2
      go_wp2_with fail
      refine (CL.out _ B1.out).mono ?_
      rintro r w3 ⟨rfl, v3, M, hS, hM⟩
      simp only [List.nil_append] at hS
      have hb : Below w1.heap.size (w1.alloc (.cells #[.slice a n c, .int .i64 0, .slice none 0 0] 44)) w3 := hS.vbelow (by simp) (NL.nil _ _)
      have B3 : Hid (Below w.heap.size w w3) := bTrans B1.out (((bAlloc (Below.refl _ _) _)).trans hb)
      have Q3 : Hid (w3.heap[w.heap.size]? = some (.cells #[.slice none 0 0] 26 (0, 0)) ∧ w3.heap[w.heap.size + 1]? = some (.cells #[.slice none 0 0] 26 (0, 0))) := by
        have hz := ((bAlloc (Below.refl w1.heap.size w1) (.cells #[.slice a n c, .int .i64 0, .slice none 0 0] 44))).trans hb
        exact ⟨by rw [hz.block _ (by have := LG.out; omega)]; exact Q1.out.1, by rw [hz.block _ LG.out]; exact Q1.out.2⟩
      have S3 : Hid (Cur w3 w1.heap.size (.slice a n c) q v3 ∧ NL w1.heap.size w3 v3 M) := ⟨hS.cur, hS.nl⟩
      have HM : Hid (M.map (fun z => z.1) = b.flat 0) := hM
      have MLn : Hid (M.length = b.size) := by show _ = _; rw [← List.length_map (f := fun z : Nb => z.1), hM, Br.flat_len]
      clear hS hM hb CL Q1 B1
      obtain ⟨va, vc, ev⟩ := S3.out.2.row.slice
      subst ev
      have c1 := cell_at (k := 1) S3.out.1 rfl
      have c2 := cell_at (k := 2) S3.out.1 rfl
      by_cases hq : q = n
      · rw [if_pos hq] at EX
        have hq1 : ((q : Int) != (n : Int)) = false := by simp [hq]
        clear hq
        by_cases h6 : b.size ≤ 60
        · rw [if_pos h6] at EX
          have h61 : decide ((60 : Int) < (M.length : Int)) = false := by have := MLn.out; simp; omega
          have h62 : ¬ ((60 : Int) < (M.length : Int)) := by have := MLn.out; omega
          have a0 := cell_at (k := 0) Q3.out.1 rfl
          have f0 := free_at Q3.out.1 0
          have HS : Hid _ := one_stored (x' := .slice va M.length vc) Q3.out.1
          have SN : Hid (NL w1.heap.size (w3.setCell ⟨w.heap.size, 0, none⟩ (.slice va M.length vc)) (.slice va M.length vc) M) := S3.out.2.same fun j h1 h2 => (show Win w.heap.size (w.heap.size + 1) w3 (w3.setCell ⟨w.heap.size, 0, none⟩ (.slice va M.length vc)) from win_setCell _ _ _ _).block j h2 (by have := LG.out; omega)
          clear Q3 S3
          go_wp2
          refine bodyPost_ret (results_tree_tmp Tryd.results6 _ _ w.heap.size _ rfl HS.out) rfl ?_
          rw [EX.out]
          exact ⟨_, w1.heap.size, M, rfl, by have := LG.out; omega, SN.out, HM.out, below_setCell B3.out (Nat.le_refl _) _ _⟩
        · rw [if_neg h6] at EX
          have h61 : decide ((60 : Int) < (M.length : Int)) = true := by have := MLn.out; simp; omega
          have h62 : ((60 : Int) < (M.length : Int)) := by have := MLn.out; omega
          have a0 := cell_at (k := 0) Q3.out.1 rfl
          have b0 := cell_at (k := 0) Q3.out.2 rfl
          have f0 := free_at Q3.out.1 0
          have HS : Hid _ := one_stored (x' := .slice none 0 0) Q3.out.1
          clear Q3
          go_wp2
          refine bodyPost_ret (results_tree_tmp Tryd.results6 _ _ w.heap.size _ rfl HS.out) rfl ?_
          rw [EX.out]
          exact ⟨_, w.heap.size, [], rfl, Nat.le_refl _, NL.nil _ _, rfl, below_setCell B3.out (Nat.le_refl _) _ _⟩
      · rw [if_neg hq] at EX
        have hq1 : ((q : Int) != (n : Int)) = true := by simp; omega
        have a0 := cell_at (k := 0) Q3.out.1 rfl
        have b0 := cell_at (k := 0) Q3.out.2 rfl
        have f0 := free_at Q3.out.1 0
        have HS : Hid _ := one_stored (x' := .slice none 0 0) Q3.out.1
        clear Q3
        go_wp2
        refine bodyPost_ret (results_tree_tmp Tryd.results6 _ _ w.heap.size _ rfl HS.out) rfl ?_
        rw [EX.out]
        exact ⟨_, w.heap.size, [], rfl, Nat.le_refl _, NL.nil _ _, rfl, below_setCell B3.out (Nat.le_refl _) _ _⟩
  · have EX : Hid (parC n T = (1, [])) := by show _ = _; unfold parC; rw [if_neg hr]
    have hr2 : tokR n T = false := by simpa using hr
    rw [hr2] at CT
    clear hr hr2
    go_enter Tryd.func6, Tryd.ntmps6
    go_wp2_with fail
    refine (CT.out _ BA.out).mono ?_
    rintro r w1 ⟨rfl, hb⟩
    have B1 : Hid (Below w.heap.size w w1) := bTrans BA.out hb
    have Q1 : Hid (w1.heap[w.heap.size]? = some (.cells #[.slice none 0 0] 26 (0, 0)) ∧ w1.heap[w.heap.size + 1]? = some (.cells #[.slice none 0 0] 26 (0, 0))) := ⟨by rw [hb.block _ (lt_of_heapA QA.out.1)]; exact QA.out.1, by rw [hb.block _ (lt_of_heapA QA.out.2)]; exact QA.out.2⟩
    clear hb CT BA QA H
    have Q3 := Q1
    have B3 := B1
    clear Q1 B1
    have a0 := cell_at (k := 0) Q3.out.1 rfl
    have b0 := cell_at (k := 0) Q3.out.2 rfl
    have f0 := free_at Q3.out.1 0
    have HS : Hid _ := one_stored (x' := .slice none 0 0) Q3.out.1
    clear Q3
    go_wp2
    refine bodyPost_ret (results_tree_tmp Tryd.results6 _ _ w.heap.size _ rfl HS.out) rfl ?_
    rw [EX.out]
    exact ⟨_, w.heap.size, [], rfl, Nat.le_refl _, NL.nil _ _, rfl, below_setCell B3.out (Nat.le_refl _) _ _⟩
end Go.Proofs.YtnebjnglcfebeaaDoor
namespace Go.Proofs.YtnebjnglcfebeaaDoor
open Go.RowKit
set_option linter.unusedVariables false
set_option linter.unusedSimpArgs false
def OwnT (o lo hi n : Nat) (W : World) (E : Nat → Nat → Int) (N : Nat → List Int) : Prop :=
  ∃ (A : Array Value) (x : Nat → Value) (b : Nat → Nat), W.heap[o]? = some (.cells A 67 (0, 0)) ∧ n * 7 ≤ A.size ∧ (lo ≤ o ∧ o < hi) ∧ hi ≤ W.heap.size ∧ hi ≤ W.heap.size ∧ (∀ i j, i < n → j < n → i ≠ j → N i ≠ [] → N j ≠ [] → b i ≠ b j) ∧
    ∀ i, i < n → (A[i * 7]? = some (.int .i64 (E i 0)) ∧ A[i * 7 + 1]? = some (.int .i64 (E i 1)) ∧ A[i * 7 + 2]? = some (.int .i64 (E i 2)) ∧ A[i * 7 + 3]? = some (.int .i64 (E i 3)) ∧ A[i * 7 + 4]? = some (.int .i64 (E i 4)) ∧ A[i * 7 + 5]? = some (.int .i64 (E i 5)) ∧ A[i * 7 + 6]? = some (x i)) ∧ Piece (b i) (b i + 1) W (x i) (N i) ∧ (N i ≠ [] → lo ≤ b i ∧ b i < hi ∧ b i ≠ o)
section
variable {W W' : World} {o lo hi n k : Nat} {E : Nat → Nat → Int} {N : Nat → List Int}
theorem OwnT.los (h : OwnT o lo hi n W E N) : lo ≤ o ∧ o < hi := by obtain ⟨A, x, b, h1, h2, h3, _⟩ := h; exact h3
theorem OwnT.same (h : OwnT o lo hi n W E N) (hs : W.heap.size ≤ W'.heap.size) (hb : ∀ j, lo ≤ j → j < hi → W'.heap[j]? = W.heap[j]?) : OwnT o lo hi n W' E N := by
  obtain ⟨A, x, b, h1, h2, h3, h4, h5, h6, h7⟩ := h
  exact ⟨A, x, b, by rw [hb o h3.1 h3.2]; exact h1, h2, h3, Nat.le_trans h4 hs, Nat.le_trans h4 hs, h6, fun i hi => ⟨(h7 i hi).1, piece_same (h7 i hi).2.1 fun hl => hb _ ((h7 i hi).2.2 hl).1 ((h7 i hi).2.2 hl).2.1, (h7 i hi).2.2⟩⟩
theorem OwnT.top (h : OwnT o lo hi n W E N) : hi ≤ W.heap.size := by obtain ⟨A, x, b, h1, h2, h3, h4, _⟩ := h; exact h4
theorem OwnT.keep (h : OwnT o lo hi n W E N) (hb : Below W.heap.size W W') : OwnT o lo hi n W' E N := h.same hb.size fun j _ h2 => hb.block j (by have := h.top; omega)
theorem OwnT.win {B C : Nat} (h : OwnT o lo hi n W E N) (hw : Win B C W W') (hd : hi ≤ B ∨ C ≤ lo) : OwnT o lo hi n W' E N := h.same hw.size fun j h1 h2 => hw.block j (by have := h.top; omega) (by omega)
theorem OwnT.cells (h : OwnT o lo hi n W E N) {i : Nat} (hk : i < n) : ((∃ u, W.cell? ⟨o, i * 7, none⟩ = some u) ∧ (∃ u, W.cell? ⟨o, i * 7 + 1, none⟩ = some u) ∧ (∃ u, W.cell? ⟨o, i * 7 + 2, none⟩ = some u) ∧ (∃ u, W.cell? ⟨o, i * 7 + 3, none⟩ = some u) ∧ (∃ u, W.cell? ⟨o, i * 7 + 4, none⟩ = some u) ∧ (∃ u, W.cell? ⟨o, i * 7 + 5, none⟩ = some u) ∧ (∃ u, W.cell? ⟨o, i * 7 + 6, none⟩ = some u)) ∧ W.frozen? ⟨o, i * 7, none⟩ = false ∧ W.frozen? ⟨o, i * 7 + 1, none⟩ = false ∧ W.frozen? ⟨o, i * 7 + 2, none⟩ = false ∧ W.frozen? ⟨o, i * 7 + 3, none⟩ = false ∧ W.frozen? ⟨o, i * 7 + 4, none⟩ = false ∧ W.frozen? ⟨o, i * 7 + 5, none⟩ = false ∧ W.frozen? ⟨o, i * 7 + 6, none⟩ = false := by
  obtain ⟨A, x, b, h1, h2, _⟩ := h
  have g : ∀ j, j < n * 7 → ∃ u, W.cell? ⟨o, j, none⟩ = some u := fun j hj => ⟨A[j]'(by omega), cell_at h1 (Array.getElem?_eq_getElem (by omega))⟩
  exact ⟨⟨g _ (by omega), g _ (by omega), g _ (by omega), g _ (by omega), g _ (by omega), g _ (by omega), g _ (by omega)⟩, free_at h1 _, free_at h1 _, free_at h1 _, free_at h1 _, free_at h1 _, free_at h1 _, free_at h1 _⟩
theorem OwnT.list (h : OwnT o lo hi n W E N) (c : Nat) : ExprsI W (.slice (some ⟨o, 0, none⟩) n c) n E N := by
  obtain ⟨A, x, b, h1, h2, h3, h4, h5, h6, h7⟩ := h
  refine ⟨_, _, rfl, .inr ⟨o, 0, x, rfl, lt_of_heapA h1, fun i hi => ?_⟩⟩
  obtain ⟨⟨q0, q1, q2, q3, q4, q5, q6⟩, qz, _⟩ := h7 i hi
  rw [Nat.zero_add]
  exact ⟨⟨cell_at h1 q0, cell_at h1 q1, cell_at h1 q2, cell_at h1 q3, cell_at h1 q4, cell_at h1 q5, cell_at h1 q6⟩, qz.intsI⟩
set_option maxHeartbeats 4000000 in
theorem OwnT.turn (h : OwnT o lo hi n W E N) (hk : k < n) (e : Nat → Int) : OwnT o lo hi n ((((((W.setCell ⟨o, k * 7, none⟩ (.int .i64 (e 0))).setCell ⟨o, k * 7 + 1, none⟩ (.int .i64 (e 1))).setCell ⟨o, k * 7 + 2, none⟩ (.int .i64 (e 2))).setCell ⟨o, k * 7 + 3, none⟩ (.int .i64 (e 3))).setCell ⟨o, k * 7 + 4, none⟩ (.int .i64 (e 4))).setCell ⟨o, k * 7 + 5, none⟩ (.int .i64 (e 5))) (fun i => if i = k then e else E i) N := by
  obtain ⟨A, x, b, h1, h2, h3, h4, h5, h6, h7⟩ := h
  have e0 := heap_setCell_same W o (k * 7) _ _ (.int .i64 (e 0)) h1
  have e1 := heap_setCell_same _ o (k * 7 + 1) _ _ (.int .i64 (e 1)) e0
  have e2 := heap_setCell_same _ o (k * 7 + 2) _ _ (.int .i64 (e 2)) e1
  have e3 := heap_setCell_same _ o (k * 7 + 3) _ _ (.int .i64 (e 3)) e2
  have e4 := heap_setCell_same _ o (k * 7 + 4) _ _ (.int .i64 (e 4)) e3
  have e5 := heap_setCell_same _ o (k * 7 + 5) _ _ (.int .i64 (e 5)) e4
  have ww : Win o (o + 1) W ((((((W.setCell ⟨o, k * 7, none⟩ (.int .i64 (e 0))).setCell ⟨o, k * 7 + 1, none⟩ (.int .i64 (e 1))).setCell ⟨o, k * 7 + 2, none⟩ (.int .i64 (e 2))).setCell ⟨o, k * 7 + 3, none⟩ (.int .i64 (e 3))).setCell ⟨o, k * 7 + 4, none⟩ (.int .i64 (e 4))).setCell ⟨o, k * 7 + 5, none⟩ (.int .i64 (e 5))) := ((((((win_setCell _ _ _ _).trans (win_setCell _ _ _ _)).trans (win_setCell _ _ _ _)).trans (win_setCell _ _ _ _)).trans (win_setCell _ _ _ _)).trans (win_setCell _ _ _ _))
  refine ⟨_, x, b, e5, by simpa using h2, h3, by simp only [size_setCell]; exact h4, by simp only [size_setCell]; exact h5, h6, fun i hi => ?_⟩
  obtain ⟨⟨q0, q1, q2, q3, q4, q5, q6⟩, qz, qb⟩ := h7 i hi
  have qz' := piece_same qz fun hl => ww.block _ (piece_lt qz hl) (by have := (qb hl).2.2; omega)
  by_cases e : i = k
  · subst e
    simp only [if_true]
    refine ⟨⟨?_, ?_, ?_, ?_, ?_, ?_, ?_⟩, qz', qb⟩
    · rw [Array.getElem?_setIfInBounds, if_neg (by omega), Array.getElem?_setIfInBounds, if_neg (by omega), Array.getElem?_setIfInBounds, if_neg (by omega), Array.getElem?_setIfInBounds, if_neg (by omega), Array.getElem?_setIfInBounds, if_neg (by omega), Array.getElem?_setIfInBounds, if_pos rfl, if_pos (by (try simp only [Array.size_setIfInBounds]); omega)]
    · rw [Array.getElem?_setIfInBounds, if_neg (by omega), Array.getElem?_setIfInBounds, if_neg (by omega), Array.getElem?_setIfInBounds, if_neg (by omega), Array.getElem?_setIfInBounds, if_neg (by omega), Array.getElem?_setIfInBounds, if_pos rfl, if_pos (by (try simp only [Array.size_setIfInBounds]); omega)]
    · rw [Array.getElem?_setIfInBounds, if_neg (by omega), Array.getElem?_setIfInBounds, if_neg (by omega), Array.getElem?_setIfInBounds, if_neg (by omega), Array.getElem?_setIfInBounds, if_pos rfl, if_pos (by (try simp only [Array.size_setIfInBounds]); omega)]
    · rw [Array.getElem?_setIfInBounds, if_neg (by omega), Array.getElem?_setIfInBounds, if_neg (by omega), Array.getElem?_setIfInBounds, if_pos rfl, if_pos (by (try simp only [Array.size_setIfInBounds]); omega)]
    · rw [Array.getElem?_setIfInBounds, if_neg (by omega), Array.getElem?_setIfInBounds, if_pos rfl, if_pos (by (try simp only [Array.size_setIfInBounds]); omega)]
    · rw [Array.getElem?_setIfInBounds, if_pos rfl, if_pos (by (try simp only [Array.size_setIfInBounds]); omega)]
    · rw [Array.getElem?_setIfInBounds, if_neg (by omega), Array.getElem?_setIfInBounds, if_neg (by omega), Array.getElem?_setIfInBounds, if_neg (by omega), Array.getElem?_setIfInBounds, if_neg (by omega), Array.getElem?_setIfInBounds, if_neg (by omega), Array.getElem?_setIfInBounds, if_neg (by omega)]; exact q6
  · simp only [if_neg e]
    refine ⟨⟨?_, ?_, ?_, ?_, ?_, ?_, ?_⟩, qz', qb⟩
    · rw [Array.getElem?_setIfInBounds, if_neg (by omega), Array.getElem?_setIfInBounds, if_neg (by omega), Array.getElem?_setIfInBounds, if_neg (by omega), Array.getElem?_setIfInBounds, if_neg (by omega), Array.getElem?_setIfInBounds, if_neg (by omega), Array.getElem?_setIfInBounds, if_neg (by omega)]; exact q0
    · rw [Array.getElem?_setIfInBounds, if_neg (by omega), Array.getElem?_setIfInBounds, if_neg (by omega), Array.getElem?_setIfInBounds, if_neg (by omega), Array.getElem?_setIfInBounds, if_neg (by omega), Array.getElem?_setIfInBounds, if_neg (by omega), Array.getElem?_setIfInBounds, if_neg (by omega)]; exact q1
    · rw [Array.getElem?_setIfInBounds, if_neg (by omega), Array.getElem?_setIfInBounds, if_neg (by omega), Array.getElem?_setIfInBounds, if_neg (by omega), Array.getElem?_setIfInBounds, if_neg (by omega), Array.getElem?_setIfInBounds, if_neg (by omega), Array.getElem?_setIfInBounds, if_neg (by omega)]; exact q2
    · rw [Array.getElem?_setIfInBounds, if_neg (by omega), Array.getElem?_setIfInBounds, if_neg (by omega), Array.getElem?_setIfInBounds, if_neg (by omega), Array.getElem?_setIfInBounds, if_neg (by omega), Array.getElem?_setIfInBounds, if_neg (by omega), Array.getElem?_setIfInBounds, if_neg (by omega)]; exact q3
    · rw [Array.getElem?_setIfInBounds, if_neg (by omega), Array.getElem?_setIfInBounds, if_neg (by omega), Array.getElem?_setIfInBounds, if_neg (by omega), Array.getElem?_setIfInBounds, if_neg (by omega), Array.getElem?_setIfInBounds, if_neg (by omega), Array.getElem?_setIfInBounds, if_neg (by omega)]; exact q4
    · rw [Array.getElem?_setIfInBounds, if_neg (by omega), Array.getElem?_setIfInBounds, if_neg (by omega), Array.getElem?_setIfInBounds, if_neg (by omega), Array.getElem?_setIfInBounds, if_neg (by omega), Array.getElem?_setIfInBounds, if_neg (by omega), Array.getElem?_setIfInBounds, if_neg (by omega)]; exact q5
    · rw [Array.getElem?_setIfInBounds, if_neg (by omega), Array.getElem?_setIfInBounds, if_neg (by omega), Array.getElem?_setIfInBounds, if_neg (by omega), Array.getElem?_setIfInBounds, if_neg (by omega), Array.getElem?_setIfInBounds, if_neg (by omega), Array.getElem?_setIfInBounds, if_neg (by omega)]; exact q6
theorem OwnT.piece (h : OwnT o lo hi n W E N) (hk : k < n) : ∃ xa xc B C, W.cell? ⟨o, k * 7 + 6, none⟩ = some (.slice xa (N k).length xc) ∧ (B = C ∨ (lo ≤ B ∧ C ≤ hi)) ∧ Piece B C W (.slice xa (N k).length xc) (N k) ∧
    ∀ (W' : World) (m : List Int), Piece B C W' (.slice xa (N k).length xc) m → m.length = (N k).length → Win B C W W' → OwnT o lo hi n W' E (fun i => if i = k then m else N i) := by
  have hh := h
  obtain ⟨A, x, b, h1, h2, h3, h4, h5, h6, h7⟩ := h
  obtain ⟨⟨q0, q1, q2, q3, q4, q5, q6⟩, qz, qb⟩ := h7 k hk
  obtain ⟨xa, xc, ex, hle, _⟩ := id qz
  by_cases hl : N k = []
  · refine ⟨xa, xc, 0, 0, by rw [← ex]; exact cell_at h1 q6, .inl rfl, ⟨xa, xc, rfl, hle, .inl hl⟩, fun W' m hm hml hw => ?_⟩
    have em : m = N k := by rw [hl] at hml ⊢; exact List.eq_nil_of_length_eq_zero hml
    have e2 : (fun i => if i = k then m else N i) = N := by
      funext i
      by_cases e : i = k
      · rw [if_pos e, em, e]
      · rw [if_neg e]
    rw [e2]
    exact hh.same hw.size fun j h1 h2 => hw.block j (by omega) (by omega)
  · have hq := qb hl
    refine ⟨xa, xc, b k, b k + 1, by rw [← ex]; exact cell_at h1 q6, .inr ⟨hq.1, by omega⟩, by rw [← ex]; exact qz, fun W' m hm hml hw => ?_⟩
    have nm : m ≠ [] := fun e => hl (by rw [e] at hml; exact List.eq_nil_of_length_eq_zero hml.symm)
    refine ⟨A, x, b, by rw [hw.block o (lt_of_heapA h1) (by omega)]; exact h1, h2, h3, Nat.le_trans h4 hw.size, Nat.le_trans h4 hw.size, fun i j hi hj hij ni nj => ?_, fun i hi => ?_⟩
    · have ni' : N i ≠ [] := by
        by_cases e : i = k
        · rw [e]; exact hl
        · simpa only [if_neg e] using ni
      have nj' : N j ≠ [] := by
        by_cases e : j = k
        · rw [e]; exact hl
        · simpa only [if_neg e] using nj
      exact h6 i j hi hj hij ni' nj'
    · obtain ⟨r1, r2, r3⟩ := h7 i hi
      by_cases e : i = k
      · subst e
        simp only [if_true]
        rw [← ex] at hm
        exact ⟨r1, hm, fun _ => hq⟩
      · simp only [if_neg e]
        exact ⟨r1, piece_same r2 fun hn => hw.block _ (piece_lt r2 hn) (by have := h6 i k hi hk e hn hl; omega), r3⟩
end
/-- One of them is marked. -/
theorem OwnT.mark1 {W : World} {o lo hi n k : Nat} {E : Nat → Nat → Int} {N : Nat → List Int} (h : OwnT o lo hi n W E N) (hk : k < n) (e : Nat → Int) : ∃ xa xc, W.cell? ⟨o, k * 7 + 6, none⟩ = some (.slice xa (N k).length xc) ∧
    ∀ k1 : Int, (N k).length ≤ 1048576 → 0 ≤ k1 → k1 ≤ 4611686018427387904 → Calls Tryd.prog 44 #[.slice xa (N k).length xc, .int .i64 k1] ((((((W.setCell ⟨o, k * 7, none⟩ (.int .i64 (e 0))).setCell ⟨o, k * 7 + 1, none⟩ (.int .i64 (e 1))).setCell ⟨o, k * 7 + 2, none⟩ (.int .i64 (e 2))).setCell ⟨o, k * 7 + 3, none⟩ (.int .i64 (e 3))).setCell ⟨o, k * 7 + 4, none⟩ (.int .i64 (e 4))).setCell ⟨o, k * 7 + 5, none⟩ (.int .i64 (e 5))) fun r w' => r = .returned (.int .i64 (k1 + (N k).length)) ∧ OwnT o lo hi n w' (fun i => if i = k then e else E i) (fun i => if i = k then upFrom k1 (N k).length else N i) ∧ Win lo hi W w' := by
  have hlt := h.los
  have ht := h.turn hk e
  obtain ⟨xa, xc, B, C, cx, hBC, hp, hall⟩ := ht.piece hk
  have cw : W.cell? ⟨o, k * 7 + 6, none⟩ = some (.slice xa (N k).length xc) := by
    obtain ⟨A, x, b, h1, h2, h3, h4, h5, h6, h7⟩ := h
    have e0 := heap_setCell_same W o (k * 7) _ _ (.int .i64 (e 0)) h1
    have e1 := heap_setCell_same _ o (k * 7 + 1) _ _ (.int .i64 (e 1)) e0
    have e2 := heap_setCell_same _ o (k * 7 + 2) _ _ (.int .i64 (e 2)) e1
    have e3 := heap_setCell_same _ o (k * 7 + 3) _ _ (.int .i64 (e 3)) e2
    have e4 := heap_setCell_same _ o (k * 7 + 4) _ _ (.int .i64 (e 4)) e3
    have e5 := heap_setCell_same _ o (k * 7 + 5) _ _ (.int .i64 (e 5)) e4
    obtain ⟨⟨q0, q1, q2, q3, q4, q5, q6⟩, qz, _⟩ := h7 k hk
    have c1 : ((((((W.setCell ⟨o, k * 7, none⟩ (.int .i64 (e 0))).setCell ⟨o, k * 7 + 1, none⟩ (.int .i64 (e 1))).setCell ⟨o, k * 7 + 2, none⟩ (.int .i64 (e 2))).setCell ⟨o, k * 7 + 3, none⟩ (.int .i64 (e 3))).setCell ⟨o, k * 7 + 4, none⟩ (.int .i64 (e 4))).setCell ⟨o, k * 7 + 5, none⟩ (.int .i64 (e 5))).cell? ⟨o, k * 7 + 6, none⟩ = some (x k) := cell_at e5 (by rw [Array.getElem?_setIfInBounds, if_neg (by omega), Array.getElem?_setIfInBounds, if_neg (by omega), Array.getElem?_setIfInBounds, if_neg (by omega), Array.getElem?_setIfInBounds, if_neg (by omega), Array.getElem?_setIfInBounds, if_neg (by omega), Array.getElem?_setIfInBounds, if_neg (by omega)]; exact q6)
    rw [← cx, c1]
    exact cell_at h1 q6
  refine ⟨xa, xc, cw, fun k1 hl p1 p2 => (mark_pieceW hp hl k1 p1 p2).mono ?_⟩
  rintro r w' ⟨rfl, hq, ho⟩
  have hw := ho.win hp
  refine ⟨rfl, hall w' _ hq (by rw [upFrom_length]) hw, Win.trans ?_ ⟨hw.os, hw.tape, hw.output, hw.size, fun j hj hd => hw.block j hj (by omega)⟩⟩
  exact ((((((Win.refl _ _ _).setCell hlt.1 hlt.2 _ _).setCell hlt.1 hlt.2 _ _).setCell hlt.1 hlt.2 _ _).setCell hlt.1 hlt.2 _ _).setCell hlt.1 hlt.2 _ _).setCell hlt.1 hlt.2 _ _
set_option maxRecDepth 20000 in
set_option maxHeartbeats 8000000 in
theorem markT_at {o lo hi n c : Nat} {w : World} {E : Nat → Nat → Int} {N : Nat → List Int} (h : OwnT o lo hi n w E N) (hl : ∀ i, (N i).length ≤ 1048576) (hn : n ≤ 1048576) (k0 : Int) (p1 : 0 ≤ k0) (p2 : k0 ≤ 1099511627776) :
    Calls Tryd.prog 26 #[.slice (some ⟨o, 0, none⟩) n c, .int .i64 k0] w fun e w' => e = .returned (.int .i64 (k0 + (totN 6 N n : Int))) ∧ (∃ E' N', OwnT o lo hi n w' E' N' ∧ MkdExprsI k0 N n E' N') ∧ Win lo hi w w' := by
  have H : Hid (OwnT o lo hi n w E N) := h
  have HL : Hid (∀ i, (N i).length ≤ 1048576) := hl
  have HT : Hid (∀ i, i ≤ n → totN 6 N i ≤ 1099518000000) := fun i hi => totN_le hl (by omega) (by omega)
  have T0 : Hid (totN 6 N 0 = 0) := rfl
  clear h hl
  go_enter Tryd.func26, Tryd.ntmps26
  go_wp2
  go_loopw [1, 5] (fun q i w' => ∃ (k : Nat) (E' : Nat → Nat → Int) (N' : Nat → List Int), k ≤ n ∧ i = .int .i64 k ∧ q = .int .i64 (k0 + (totN 6 N k : Int)) ∧ OwnT o lo hi n w' E' N' ∧ MkdExprsI k0 N k E' N' ∧ (∀ i, k ≤ i → N' i = N i) ∧ Win lo hi w w') (fun _ i _ => n - (intOf i).toNat)
  case atStart => exact ⟨0, E, N, by omega, rfl, by rw [T0.out]; simp, H.out, fun i hi => absurd hi (by omega), fun _ _ => rfl, Win.refl _ _ _⟩
  case round =>
    obtain ⟨k, E', N', hk, rfl, rfl, hO, hM, hN, hW⟩ := hrel
    have HO : Hid (OwnT o lo hi n wr E' N') := hO
    have HM : Hid (MkdExprsI k0 N k E' N') := hM
    have HN : Hid (∀ i, k ≤ i → N' i = N i) := hN
    have HW : Hid (Win lo hi w wr) := hW
    clear hO hM hN hW
    by_cases hlt : (k : Int) < (n : Int)
    · have L : k < n := by omega
      have ht := HT.out k hk
      have TS : Hid (totN 6 N (k + 1) = totN 6 N k + (6 + (N k).length)) := rfl
      obtain ⟨⟨⟨u0, c0⟩, ⟨u1, c1⟩, ⟨u2, c2⟩, ⟨u3, c3⟩, ⟨u4, c4⟩, ⟨u5, c5⟩, ⟨u6, c6⟩⟩, f0, f1, f2, f3, f4, f5, f6⟩ := HO.out.cells L
      obtain ⟨xa, xc, cx, hall⟩ := HO.out.mark1 L (fun j => k0 + (totN 6 N k : Int) + (j : Int))
      rw [HN.out k (Nat.le_refl _)] at cx hall
      clear c6 u6 f6
      have NXT : Hid (∀ (E'' : Nat → Nat → Int) (N'' : Nat → List Int), E'' = (fun i => if i = k then (fun (j : Nat) => k0 + (totN 6 N k : Int) + (j : Int)) else E' i) → N'' = (fun i => if i = k then upFrom (k0 + (totN 6 N k : Int) + 6) (N k).length else N' i) → MkdExprsI k0 N (k + 1) E'' N'' ∧ ∀ i, k + 1 ≤ i → N'' i = N i) := by
        intro E'' N'' he hn
        subst he hn
        refine ⟨fun i hi => ?_, fun i hi => by simp only [if_neg (show ¬ i = k by omega)]; exact HN.out i (by omega)⟩
        by_cases e : i = k
        · subst e; simp
        · simp only [if_neg e]; exact HM.out i (by omega)
      have CM : Hid (Calls Tryd.prog 44 #[.slice xa (N k).length xc, .int .i64 (k0 + (totN 6 N k : Int) + 1 + 1 + 1 + 1 + 1 + 1)] ((((((wr.setCell ⟨o, k * 7, none⟩ (.int .i64 (k0 + (totN 6 N k : Int)))).setCell ⟨o, k * 7 + 1, none⟩ (.int .i64 (k0 + (totN 6 N k : Int) + 1))).setCell ⟨o, k * 7 + 2, none⟩ (.int .i64 (k0 + (totN 6 N k : Int) + 1 + 1))).setCell ⟨o, k * 7 + 3, none⟩ (.int .i64 (k0 + (totN 6 N k : Int) + 1 + 1 + 1))).setCell ⟨o, k * 7 + 4, none⟩ (.int .i64 (k0 + (totN 6 N k : Int) + 1 + 1 + 1 + 1))).setCell ⟨o, k * 7 + 5, none⟩ (.int .i64 (k0 + (totN 6 N k : Int) + 1 + 1 + 1 + 1 + 1))) fun r w' => r = .returned (.int .i64 (k0 + (totN 6 N (k + 1) : Int))) ∧ (∃ E'' N'', OwnT o lo hi n w' E'' N'' ∧ MkdExprsI k0 N (k + 1) E'' N'' ∧ ∀ i, k + 1 ≤ i → N'' i = N i) ∧ Win lo hi w w') := by
        have := hall (k0 + (totN 6 N k : Int) + 6) (HL.out k) (by omega) (by omega)
        rw [show k0 + (totN 6 N k : Int) + 1 + 1 = k0 + (totN 6 N k : Int) + 2 by omega, show k0 + (totN 6 N k : Int) + 2 + 1 = k0 + (totN 6 N k : Int) + 3 by omega, show k0 + (totN 6 N k : Int) + 3 + 1 = k0 + (totN 6 N k : Int) + 4 by omega, show k0 + (totN 6 N k : Int) + 4 + 1 = k0 + (totN 6 N k : Int) + 5 by omega, show k0 + (totN 6 N k : Int) + 5 + 1 = k0 + (totN 6 N k : Int) + 6 by omega]
        simp only [Int.natCast_zero, Int.add_zero, Int.ofNat_zero] at this
        refine this.mono ?_
        rintro r w' ⟨rfl, h1, h2⟩
        refine ⟨by rw [TS.out]; congr 2; omega, ⟨_, _, h1, NXT.out _ _ rfl rfl⟩, HW.out.trans h2⟩
      clear hall TS NXT
      generalize (N k).length = nl at *
      generalize totN 6 N k = z at *
      have HZ : Hid (totN 6 N (k + 1) = totN 6 N (k + 1)) := rfl
      generalize hz' : totN 6 N (k + 1) = z' at CM
      have HZ' : Hid (totN 6 N (k + 1) = z') := hz'
      clear HZ hz'
      go_wp2_with fail
      refine CM.out.mono ?_
      rintro r w2 ⟨rfl, ⟨E2, N2, hO, hM, hN⟩, hW⟩
      have O2 : Hid (OwnT o lo hi n w2 E2 N2) := hO
      have X2 : Hid (MkdExprsI k0 N (k + 1) E2 N2 ∧ (∀ i, k + 1 ≤ i → N2 i = N i) ∧ Win lo hi w w2) := ⟨hM, hN, hW⟩
      clear hO hM hN hW CM
      go_wp2
      go_roundw
      case rel => exact ⟨k + 1, E2, N2, by omega, by go_num, by rw [HZ'.out], O2.out, X2.out⟩
      case measure => simp [intOf]; omega
    · have e : k = n := by omega
      subst e
      go_wp2
      go_ret
      exact ⟨rfl, ⟨E', N', HO.out, HM.out⟩, HW.out⟩
set_option maxRecDepth 20000 in
set_option maxHeartbeats 8000000 in
theorem heldT_at {o lo hi n c : Nat} {w : World} {E : Nat → Nat → Int} {N N0 : Nat → List Int} (k0 : Int) (h : OwnT o lo hi n w E N) (hm : MkdExprsI k0 N0 n E N) (hl : ∀ i, (N0 i).length ≤ 1048576) (hn : n ≤ 1048576) (hT : totN 6 N0 n ≤ 1073741824) (p1 : 0 ≤ k0) (p2 : k0 ≤ 1073741824) :
    Calls Tryd.prog 27 #[.slice (some ⟨o, 0, none⟩) n c, .int .i64 k0] w fun e w' => e = .returned (.int .i64 (k0 + (totN 6 N0 n : Int))) ∧ w' = w := by
  have H : Hid (OwnT o lo hi n w E N) := h
  have HM : Hid (MkdExprsI k0 N0 n E N) := hm
  have HL : Hid (∀ i, (N0 i).length ≤ 1048576) := hl
  have HT : Hid (∀ i, i ≤ n → totN 6 N0 i ≤ 1073741824) := fun i hi => Nat.le_trans (totN_mono 6 N0 hi) hT
  have T0 : Hid (totN 6 N0 0 = 0) := rfl
  clear h hl hm hT
  go_enter Tryd.func27, Tryd.ntmps27
  go_wp2
  go_loop [1, 5] (fun q i => ∃ (k : Nat), k ≤ n ∧ i = .int .i64 k ∧ q = .int .i64 (k0 + (totN 6 N0 k : Int))) (fun _ i => n - (intOf i).toNat)
  case atStart => exact ⟨0, by omega, rfl, by rw [T0.out]; simp⟩
  case round =>
    obtain ⟨k, hk, rfl, rfl⟩ := hrel
    by_cases hlt : (k : Int) < (n : Int)
    · have L : k < n := by omega
      have ht := HT.out k hk
      have ht2 := HT.out (k + 1) (by omega)
      have TS : totN 6 N0 (k + 1) = totN 6 N0 k + (6 + (N0 k).length) := rfl
      obtain ⟨⟨m0, m1, m2, m3, m4, m5⟩, mn⟩ := HM.out k L
      obtain ⟨A, x, bb, h1, h2, h3, h4, h5, h6, h7⟩ := H.out
      obtain ⟨⟨q0, q1, q2, q3, q4, q5, q6⟩, qz, _⟩ := h7 k L
      rw [mn] at qz
      obtain ⟨xa, xc, ex, _⟩ := qz.ints
      rw [upFrom_length] at ex
      rw [ex] at qz q6
      have c0 : w.cell? ⟨o, k * 7, none⟩ = some (.int .i64 (k0 + (totN 6 N0 k : Int))) := by rw [cell_at h1 q0, m0, Int.add_zero]
      have c1 : w.cell? ⟨o, k * 7 + 1, none⟩ = some (.int .i64 (k0 + (totN 6 N0 k : Int) + 1)) := by rw [cell_at h1 q1, m1]
      have c2 : w.cell? ⟨o, k * 7 + 2, none⟩ = some (.int .i64 (k0 + (totN 6 N0 k : Int) + 1 + 1)) := by rw [cell_at h1 q2, m2]; congr 2; omega
      have c3 : w.cell? ⟨o, k * 7 + 3, none⟩ = some (.int .i64 (k0 + (totN 6 N0 k : Int) + 1 + 1 + 1)) := by rw [cell_at h1 q3, m3]; congr 2; omega
      have c4 : w.cell? ⟨o, k * 7 + 4, none⟩ = some (.int .i64 (k0 + (totN 6 N0 k : Int) + 1 + 1 + 1 + 1)) := by rw [cell_at h1 q4, m4]; congr 2; omega
      have c5 : w.cell? ⟨o, k * 7 + 5, none⟩ = some (.int .i64 (k0 + (totN 6 N0 k : Int) + 1 + 1 + 1 + 1 + 1)) := by rw [cell_at h1 q5, m5]; congr 2; omega
      have c6 : w.cell? ⟨o, k * 7 + 6, none⟩ = some (.slice xa (N0 k).length xc) := cell_at h1 q6
      have CH : Hid (Calls Tryd.prog 45 #[.slice xa (N0 k).length xc, .int .i64 (k0 + (totN 6 N0 k : Int) + 1 + 1 + 1 + 1 + 1 + 1)] w fun e w' => e = .returned (.int .i64 (k0 + (totN 6 N0 (k + 1) : Int))) ∧ w' = w) := by
        have := held_piece (k0 + (totN 6 N0 k : Int) + 6) qz (HL.out k) (by omega) (by omega)
        rw [show k0 + (totN 6 N0 k : Int) + 1 + 1 = k0 + (totN 6 N0 k : Int) + 2 by omega, show k0 + (totN 6 N0 k : Int) + 2 + 1 = k0 + (totN 6 N0 k : Int) + 3 by omega, show k0 + (totN 6 N0 k : Int) + 3 + 1 = k0 + (totN 6 N0 k : Int) + 4 by omega, show k0 + (totN 6 N0 k : Int) + 4 + 1 = k0 + (totN 6 N0 k : Int) + 5 by omega, show k0 + (totN 6 N0 k : Int) + 5 + 1 = k0 + (totN 6 N0 k : Int) + 6 by omega]
        refine this.mono ?_
        rintro e w' ⟨rfl, h⟩
        exact ⟨by rw [TS]; congr 2; omega, h⟩
      have PZ : 0 ≤ k0 + (totN 6 N0 (k + 1) : Int) := by omega
      clear q0 q1 q2 q3 q4 q5 q6 h1 h2 h3 h4 h5 h6 h7 qz ex mn m0 m1 m2 m3 m4 m5 TS
      generalize (N0 k).length = nl at *
      generalize totN 6 N0 k = z at *
      generalize hz' : totN 6 N0 (k + 1) = z' at CH PZ ht2
      have HZ' : Hid (totN 6 N0 (k + 1) = z') := hz'
      clear hz'
      go_wp2_with fail
      refine CH.out.mono ?_
      rintro r w' ⟨rfl, hw⟩
      subst w'
      clear CH
      go_wp2
      go_round
      case rel => exact ⟨k + 1, by omega, by go_num, by rw [HZ'.out]⟩
      case measure => simp [intOf]; omega
    · have e : k = n := by omega
      subst e
      go_wp2
      go_ret
      exact ⟨rfl, rfl⟩

theorem markExprS_nil (a : Option Addr) (c : Nat) (k0 : Int) (w : World) :
    Calls Tryd.prog 26 #[.slice a 0 c, .int .i64 k0] w fun e w' => e = .returned (.int .i64 k0) ∧ w' = w := by
  go_enter Tryd.func26, Tryd.ntmps26
  go_wp2
  refine wp_loop_rounds 1 ?_
  rw [rounds_succ]
  go_wp2
  go_ret
  exact ⟨rfl, rfl⟩
theorem heldExprS_nil (a : Option Addr) (c : Nat) (k0 : Int) (w : World) :
    Calls Tryd.prog 27 #[.slice a 0 c, .int .i64 k0] w fun e w' => e = .returned (.int .i64 k0) ∧ w' = w := by
  go_enter Tryd.func27, Tryd.ntmps27
  go_wp2
  refine wp_loop_rounds 1 ?_
  rw [rounds_succ]
  go_wp2
  go_ret
  exact ⟨rfl, rfl⟩
/-- A tree's list of one's own, or none. -/
def OwnVT (lo hi : Nat) (w : World) (v : Value) (n : Nat) (E : Nat → Nat → Int) (N : Nat → List Int) : Prop := (n = 0 ∧ ∃ a c, v = .slice a 0 c) ∨ ∃ o c, v = .slice (some ⟨o, 0, none⟩) n c ∧ OwnT o lo hi n w E N
section
variable {lo hi n : Nat} {w w' : World} {v : Value} {E : Nat → Nat → Int} {N : Nat → List Int}
theorem OwnVT.slice (h : OwnVT lo hi w v n E N) : ∃ a c, v = .slice a n c := by
  rcases h with ⟨rfl, a, c, e⟩ | ⟨o, c, e, _⟩
  · exact ⟨a, c, e⟩
  · exact ⟨_, c, e⟩
theorem OwnVT.list (h : OwnVT lo hi w v n E N) : ExprsI w v n E N := by
  rcases h with ⟨rfl, a, c, e⟩ | ⟨o, c, e, h⟩
  · exact ⟨a, c, e, .inl rfl⟩
  · rw [e]; exact h.list c
theorem OwnVT.keep (h : OwnVT lo hi w v n E N) (hb : Below w.heap.size w w') : OwnVT lo hi w' v n E N := by
  rcases h with h | ⟨o, c, e, h⟩
  · exact .inl h
  · exact .inr ⟨o, c, e, h.keep hb⟩
theorem OwnVT.win {B C : Nat} (h : OwnVT lo hi w v n E N) (hw : Win B C w w') (hd : hi ≤ B ∨ C ≤ lo) : OwnVT lo hi w' v n E N := by
  rcases h with h | ⟨o, c, e, h⟩
  · exact .inl h
  · exact .inr ⟨o, c, e, h.win hw hd⟩
theorem OwnVT.mark (h : OwnVT lo hi w v n E N) (hl : ∀ i, (N i).length ≤ 1048576) (hn : n ≤ 1048576) (k0 : Int) (p1 : 0 ≤ k0) (p2 : k0 ≤ 1099511627776) :
    Calls Tryd.prog 26 #[v, .int .i64 k0] w fun e w' => e = .returned (.int .i64 (k0 + (totN 6 N n : Int))) ∧ (∃ E' N', OwnVT lo hi w' v n E' N' ∧ MkdExprsI k0 N n E' N') ∧ Win lo hi w w' := by
  rcases h with ⟨rfl, a, c, rfl⟩ | ⟨o, c, rfl, h⟩
  · refine (markExprS_nil a c k0 w).mono ?_
    rintro e w' ⟨rfl, rfl⟩
    exact ⟨by simp [totN], ⟨E, N, .inl ⟨rfl, a, c, rfl⟩, fun i hi => absurd hi (by omega)⟩, Win.refl _ _ _⟩
  · refine (markT_at h hl hn k0 p1 p2).mono ?_
    rintro e w' ⟨rfl, ⟨E', N', h1, h2⟩, hw⟩
    exact ⟨rfl, ⟨E', N', .inr ⟨o, c, rfl, h1⟩, h2⟩, hw⟩
theorem OwnVT.held {N0 : Nat → List Int} (h : OwnVT lo hi w v n E N) (k0 : Int) (hm : MkdExprsI k0 N0 n E N) (hl : ∀ i, (N0 i).length ≤ 1048576) (hn : n ≤ 1048576) (hT : totN 6 N0 n ≤ 1073741824) (p1 : 0 ≤ k0) (p2 : k0 ≤ 1073741824) :
    Calls Tryd.prog 27 #[v, .int .i64 k0] w fun e w' => e = .returned (.int .i64 (k0 + (totN 6 N0 n : Int))) ∧ w' = w := by
  rcases h with ⟨rfl, a, c, rfl⟩ | ⟨o, c, rfl, h⟩
  · refine (heldExprS_nil a c k0 w).mono ?_
    rintro e w' ⟨rfl, rfl⟩
    exact ⟨by simp [totN], rfl⟩
  · exact heldT_at k0 h hm hl hn hT p1 p2
end
set_option maxRecDepth 20000 in
set_option maxHeartbeats 4000000 in
/-- A tree is marked. -/
theorem markTreeV {lo hi n : Nat} {w : World} {v : Value} {E : Nat → Nat → Int} {N : Nat → List Int} (h : OwnVT lo hi w v n E N) (hl : ∀ i, (N i).length ≤ 1048576) (hn : n ≤ 1048576) (k0 : Int) (p1 : 0 ≤ k0) (p2 : k0 ≤ 1099511627776) (hh : hi ≤ w.heap.size) :
    Calls Tryd.prog 12 #[.agg #[v], .int .i64 k0] w fun e w' => e = .returned (.int .i64 (k0 + (totN 6 N n : Int))) ∧ (∃ E' N', OwnVT lo hi w' v n E' N' ∧ MkdExprsI k0 N n E' N') ∧ Win lo hi w w' := by
  have CM : Hid (Calls Tryd.prog 26 #[v, .int .i64 k0] (w.alloc (.cells #[v] 26)) fun e w' => e = .returned (.int .i64 (k0 + (totN 6 N n : Int))) ∧ (∃ E' N', OwnVT lo hi w' v n E' N' ∧ MkdExprsI k0 N n E' N') ∧ Win lo hi w w') := by
    refine ((h.keep one_below).mark hl hn k0 p1 p2).mono ?_
    rintro e w' ⟨rfl, hE, hw⟩
    exact ⟨rfl, hE, Win.trans (Below.win one_below) hw⟩
  obtain ⟨a, c, rfl⟩ := h.slice
  clear h hl
  generalize totN 6 N n = z at *
  go_enter Tryd.func12, Tryd.ntmps12
  go_wp2_with fail
  refine CM.out.mono ?_
  rintro r w2 ⟨rfl, hE, hw⟩
  have HW : Hid ((∃ E' N', OwnVT lo hi w2 (.slice a n c) n E' N' ∧ MkdExprsI k0 N n E' N') ∧ Win lo hi w w2) := ⟨hE, hw⟩
  clear hw CM hE
  go_wp2
  go_ret
  exact ⟨rfl, HW.out⟩
set_option maxRecDepth 20000 in
set_option maxHeartbeats 4000000 in
/-- What is marked is held. -/
theorem heldTreeV {lo hi n : Nat} {w : World} {v : Value} {E : Nat → Nat → Int} {N N0 : Nat → List Int} (h : OwnVT lo hi w v n E N) (k0 : Int) (hm : MkdExprsI k0 N0 n E N) (hl : ∀ i, (N0 i).length ≤ 1048576) (hn : n ≤ 1048576) (hT : totN 6 N0 n ≤ 1073741824) (p1 : 0 ≤ k0) (p2 : k0 ≤ 1073741824) :
    Calls Tryd.prog 13 #[.agg #[v], .int .i64 k0] w fun e w' => e = .returned (.int .i64 (k0 + (totN 6 N0 n : Int))) ∧ Below w.heap.size w w' := by
  have CM : Hid (Calls Tryd.prog 27 #[v, .int .i64 k0] (w.alloc (.cells #[v] 26)) fun e w' => e = .returned (.int .i64 (k0 + (totN 6 N0 n : Int))) ∧ w' = w.alloc (.cells #[v] 26)) := (h.keep one_below).held k0 hm hl hn hT p1 p2
  obtain ⟨a, c, rfl⟩ := h.slice
  have HZ : 0 ≤ k0 + (totN 6 N0 n : Int) := by omega
  clear h hl hT hm
  generalize totN 6 N0 n = z at *
  go_enter Tryd.func13, Tryd.ntmps13
  go_wp2_with fail
  refine CM.out.mono ?_
  rintro r w2 ⟨rfl, hw⟩
  subst w2
  clear CM
  go_wp2
  go_ret
  exact ⟨rfl, one_below⟩
/-- What Parse answers is its own. -/
theorem NxB.ownVT {lo0 lo : Nat} {w : World} {v : Value} {L : List Nb} (h : NxB lo w v L) (hL : LbOk w lo0 lo L) (h0 : lo0 ≤ lo) (h1 : lo ≤ w.heap.size) : OwnVT lo0 w.heap.size w v L.length (ndE (L.map (fun z => z.1))) (ndN (L.map (fun z => z.1))) := by
  obtain ⟨q0, q⟩ := id h
  rcases q with ⟨e, hz⟩ | ⟨g, cap, cur, e, hB, hg, hc, hm, hs, ht⟩
  · exact .inl ⟨hz, none, 0, e⟩
  · refine .inr ⟨g, cap, e, cur, fun i => (L.getD i nb0).2.1, fun i => (L.getD i nb0).2.2, hg, by omega, ⟨by omega, lt_of_heapA hg⟩, Nat.le_refl _, Nat.le_refl _, fun i j hi hj hij ni nj => ?_, fun i hi => ?_⟩
    · simp only [ndN, map_getD] at ni nj
      have gi : L.getD i nb0 = L[i] := by rw [List.getD_eq_getElem?_getD, List.getElem?_eq_getElem hi]; rfl
      have gj : L.getD j nb0 = L[j] := by rw [List.getD_eq_getElem?_getD, List.getElem?_eq_getElem hj]; rfl
      have pw := List.pairwise_iff_getElem.1 hL.2
      rw [gi] at ni
      rw [gj] at nj
      show (L.getD i nb0).2.2 ≠ (L.getD j nb0).2.2
      rw [gi, gj]
      rcases Nat.lt_or_gt_of_ne hij with l | l
      · exact pw i j hi hj l ni nj
      · exact fun e => pw j i hj hi l nj ni e.symm
    · have hmem : L.getD i nb0 ∈ L := by rw [List.getD_eq_getElem?_getD, List.getElem?_eq_getElem hi]; exact List.getElem_mem hi
      have hp := hL.1 _ hmem
      have at7 : ∀ j x, j < 7 → (nd1 (L.getD i nb0))[j]? = some x → cur[i * 7 + j]? = some x := fun j x hj hx => by
        have h6 : (cur.toList.take (L.length * 7))[i * 7 + j]? = (ndv L)[i * 7 + j]? := by rw [ht]
        rw [List.getElem?_take_of_lt (by omega), ndv_at L i j hi hj, hx] at h6
        simpa using h6
      simp only [ndE, ndN, map_getD]
      exact ⟨⟨at7 0 _ (by omega) rfl, at7 1 _ (by omega) rfl, at7 2 _ (by omega) rfl, at7 3 _ (by omega) rfl, at7 4 _ (by omega) rfl, at7 5 _ (by omega) rfl, at7 6 _ (by omega) rfl⟩, hp.1, fun hl => ⟨(hp.2 hl).1, by have := (hp.2 hl).2; omega, by have := (hp.2 hl).2; omega⟩⟩
end Go.Proofs.YtnebjnglcfebeaaDoor
namespace Go.Proofs.YtnebjnglcfebeaaDoor
open Go.RowKit
set_option linter.unusedVariables false
set_option linter.unusedSimpArgs false
set_option maxRecDepth 20000 in
set_option maxHeartbeats 4000000 in
theorem tokensK_impl {w : World} {a : Option Addr} {n c : Nat} {E : Nat → Spn} (h : SsA w a n E) (hn : n ≤ 1048576) :
    Calls Tryd.prog 20 #[.slice a n c] w fun e w' => e = .returned (.bool (tokR n E)) ∧ Below w.heap.size w w' := by
  have H : Hid (SsA w a n E) := h
  clear h
  by_cases hbig : (n : Int) > 300
  · have ER : Hid (tokR n E = false) := by
      show _ = _
      unfold tokR
      rw [decide_eq_false (by omega), Bool.and_false]
    go_enter Tryd.func20, Tryd.ntmps20
    go_wp2
    go_ret
    exact ⟨by rw [ER.out]; rfl, Below.refl _ _⟩
  have ER : Hid (tokAll E n = true → tokR n E = true) := fun h => by
    unfold tokR
    rw [h, decide_eq_true (by omega)]; rfl
  have EF : Hid (tokAll E n = false → tokR n E = false) := fun h => by unfold tokR; rw [h]; rfl
  go_enter Tryd.func20, Tryd.ntmps20
  go_wp2
  go_loopw [10] (fun i w' => ∃ k : Nat, k ≤ n ∧ i = .int .i64 (k : Int) ∧ tokAll E k = true ∧ Below w.heap.size w w') (fun i _ => n - (intOf i).toNat)
  case atStart => exact ⟨0, by omega, rfl, rfl, Below.refl _ _⟩
  case round =>
    obtain ⟨k, hk, rfl, ha, hb⟩ := hrel
    have HA : Hid (tokAll E k = true) := ha
    have HB : Hid (Below w.heap.size w wr) := hb
    clear ha hb
    by_cases hlt : (k : Int) < (n : Int)
    · have L : k < n := by omega
      obtain ⟨o, off, rfl, ho, p0, p1⟩ := (H.out.keep HB.out).at L
      have NO : Hid (tokB (E k).f (E k).t = false → tokR n E = false) := fun h => EF.out (tokAll_no L h)
      have YES : Hid (tokB (E k).f (E k).t = true → tokAll E (k + 1) = true) := fun h => tokAll_next HA.out h
      have CT : Hid (∀ W, Calls Tryd.prog 40 #[.agg #[.int .i64 (E k).f, .int .i64 (E k).t]] W fun e w' => e = .returned (.bool (tokB (E k).f (E k).t)) ∧ Below W.heap.size W w') := fun W => tokOk_impl _ _ W
      clear ho
      generalize (E k).f = e0 at *
      generalize (E k).t = e1 at *
      generalize tokB e0 e1 = q at *
      go_wp2_with fail
      refine (CT.out _).mono ?_
      rintro r w2 ⟨rfl, hb⟩
      have B2 : Hid (Below w.heap.size w w2) := bTrans (bAlloc HB.out _) hb
      clear hb CT p0 p1
      cases q
      · go_wp2
        go_ret
        exact ⟨by rw [NO.out (by trivial)]; rfl, B2.out⟩
      · go_wp2
        go_roundw
        case rel => exact ⟨k + 1, by omega, by go_num, YES.out (by trivial), B2.out⟩
        case measure => simp [intOf]; omega
    · obtain rfl : k = n := by omega
      go_wp2
      go_ret
      exact ⟨by rw [ER.out HA.out]; rfl, HB.out⟩
end Go.Proofs.YtnebjnglcfebeaaDoor
namespace Go.Proofs.YtnebjnglcfebeaaDoor
open Go.RowKit
set_option linter.unusedVariables false
set_option linter.unusedSimpArgs false
/-- What whole comes to. -/
def wholeP (n : Nat) (T : Nat → Spn) : Option Br := match lineP n T (n + 1) 0 with
  | none => none
  | some x => if x.2 = n then some x.1 else none
def WhoP (te : TypeId) (pe : Value) (w : World) (ga : Nat) (x : Option Br) (e : Ending) (w' : World) : Prop :=
  match x with
  | none => e = Pan te pe ∧ Below ga w w'
  | some b => ∃ g, e = .returned (.pointer (some ⟨g, 0, none⟩)) ∧ BrAt w' b w.heap.size w'.heap.size g ∧ Chg ga (.slice none 0 0) w w'
set_option maxRecDepth 20000 in
set_option maxHeartbeats 8000000 in
/-- whole. -/
theorem whole_impl {a : Option Addr} {n c : Nat} {T : Nat → Spn} {te : TypeId} {pe : Value} (hn : n ≤ 300) {w : World} {ga : Nat} (h : Rs a n T te pe w ga 0) :
    Calls Tryd.prog 22 #[.agg #[.slice a n c, .pointer (some ⟨ga, 0, none⟩)]] w fun e w' => WhoP te pe w ga (wholeP n T) e w' := by
  have LG : Hid (ga < w.heap.size) := h.lts
  have Q0 : Hid (QR a n c T te pe w ga 0 (w.alloc (.cells #[.slice a n c, .pointer (some ⟨ga, 0, none⟩)] 51))) := QR.start h
  have CL : Hid (∀ W, Rs a n T te pe W ga 0 → Calls Tryd.prog 41 #[.agg #[.slice a n c, .pointer (some ⟨ga, 0, none⟩)]] W fun e w' => OutP a n T te pe W ga (lineP n T (n + 1) 0) e w') := fun W hW => line_impl hn (n + 1) W ga 0 hW (by omega) (by omega)
  have EX : Hid (wholeP n T = match lineP n T (n + 1) 0 with
      | none => none
      | some x => if x.2 = n then some x.1 else none) := rfl
  clear h
  cases hx : lineP n T (n + 1) 0 with
  | none =>
    rw [hx] at EX CL
    rw [EX.out]
    clear EX hx
    go_enter Tryd.func22, Tryd.ntmps22
    have x0 := Q0.out.x0
    have x1 := Q0.out.x1
    go_wp2_with fail
    refine (CL.out _ Q0.out.rs).mono ?_
    rintro r w1 ⟨rfl, hb⟩
    have B1 : Hid (Below ga w w1) := (Q0.out.chg.lo LG.out).trans hb
    clear hb Q0 CL x0 x1
    unfold Pan
    go_wp2
    exact ⟨rfl, rfl, B1.out⟩
  | some y =>
    obtain ⟨b, q⟩ := y
    rw [hx] at EX CL
    simp only at EX
    clear hx
    by_cases hq : q = n
    · rw [EX.out, if_pos hq]
      subst hq
      clear EX
      go_enter Tryd.func22, Tryd.ntmps22
      have x0 := Q0.out.x0
      have x1 := Q0.out.x1
      go_wp2_with fail
      refine (CL.out _ Q0.out.rs).mono ?_
      rintro r w1 ⟨g, rfl, hB, hR, hC⟩
      have Q1 : Hid (QR a q c T te pe w ga q w1) := Q0.out.go LG.out hR hC
      have B1 : Hid (BrAt w1 b w.heap.size w1.heap.size g) := hB.mono (by simp) (Nat.le_refl _)
      clear hB hR hC Q0 CL x0 x1
      have x0 := Q1.out.x0
      have x1 := Q1.out.x1
      have d0 := Q1.out.rs.c0
      go_wp2_with fail
      go_region_law (go_simp; go_at_call 42; refine (must_true _).mono ?_; rintro r w2 ⟨rfl, hw2⟩; subst w2; go_simp)
      all_goals
        go_wp2
        go_ret
        exact ⟨g, rfl, by first | exact B1.out | exact B1.out.same fun _ _ _ => rfl, by first | exact Q1.out.chg | exact Q1.out.chg.on (Chg.of ((Below.refl _ _).drew))⟩
    · rw [EX.out, if_neg hq]
      clear EX
      have ne : ((q : Int) == (n : Int)) = false := by simp; omega
      go_enter Tryd.func22, Tryd.ntmps22
      have x0 := Q0.out.x0
      have x1 := Q0.out.x1
      go_wp2_with fail
      refine (CL.out _ Q0.out.rs).mono ?_
      rintro r w1 ⟨g, rfl, hB, hR, hC⟩
      have Q1 : Hid (QR a n c T te pe w ga q w1) := Q0.out.go LG.out hR hC
      clear hB hR hC Q0 CL x0 x1
      have x0 := Q1.out.x0
      have x1 := Q1.out.x1
      have d0 := Q1.out.rs.c0
      go_wp2_with fail
      go_region_dies
      all_goals
        refine (must_false (by first | exact Q1.out.rs.err | exact (Q1.out.rs.keep ((Below.refl _ _).drew)).err)).mono ?_
        rintro r w2 ⟨rfl, hw2⟩
        have B2 : Below ga w w2 := by rw [hw2]; first | exact Q1.out.chg.lo LG.out | exact (Q1.out.chg.lo LG.out).trans ((Below.refl _ _).drew)
        unfold Pan
        exact And.intro rfl (And.intro rfl B2)
set_option maxRecDepth 20000 in
set_option maxHeartbeats 8000000 in
/-- The deferred function, of a frame that panics. -/
theorem catch_pan (p q : Addr) (x y : Value) (u : TypeId) (pv : Value) (older : List PanicEntry) (w : World) (hc : w.cell? p = some x) (hz : w.frozen? p = false) (hd : ∀ v, (w.setCell p v).cell? q = some y) (hy : ∀ v, (w.setCell p v).frozen? q = false) :
    CallsD Tryd.prog 21 #[.pointer (some p), .pointer (some q)] (.panicking ({ v := .iface u pv, recovered := false } :: older)) w fun e u' w' =>
      e = .returned (.tuple #[]) ∧ u' = .panicking ({ v := .iface u pv, recovered := true } :: older) ∧ w' = (w.setCell p (.slice none 0 0)).setCell q (.int .i64 8) := by
  refine callsD_of_wpS Tryd.func21 rfl fun c₀ cs hu => ?_
  apply wpS_seq
  apply wpS_region
  simp [wpOpsS, go_sem, recoverD, hu, Tryd.ntmps21, Exit.thenS]
  refine wpS_cond (t := true) (by simp [Act.eval, Array.replicate]) ?_
  simp only [if_true]
  apply wpS_region
  simp [wpOpsS, go_sem, hc, hz, hd, hy, bodyPostS, results, Tryd.results21]
set_option maxRecDepth 20000 in
set_option maxHeartbeats 8000000 in
/-- The deferred function, of a frame that returns. -/
theorem catch_idle (p q : Addr) (w : World) :
    CallsD Tryd.prog 21 #[.pointer (some p), .pointer (some q)] .returning w fun e u' w' => e = .returned (.tuple #[]) ∧ u' = .returning ∧ w' = w := by
  refine callsD_of_wpS Tryd.func21 rfl fun c₀ cs hu => ?_
  apply wpS_seq
  apply wpS_region
  simp [wpOpsS, go_sem, recoverD, hu, Tryd.ntmps21, Exit.thenS]
  refine wpS_cond (t := false) (by simp [Act.eval, Array.replicate]) ?_
  simp only [Bool.false_eq_true, if_false]
  refine wpS_of_wp (wp_skip ?_)
  cases c₀
  simp_all [bodyPostS, results, Tryd.results21]
end Go.Proofs.YtnebjnglcfebeaaDoor
namespace Go.Proofs.YtnebjnglcfebeaaDoor
open Go.RowKit
set_option linter.unusedVariables false
set_option linter.unusedSimpArgs false
theorem one_set {w : World} {g : Nat} {x x' : Value} {t : TypeId} (h : w.heap[g]? = some (.cells #[x] t (0, 0))) : (w.setCell ⟨g, 0, none⟩ x').heap[g]? = some (.cells #[x'] t (0, 0)) := by
  have h1 := heap_setCell_same w g 0 _ _ x' h
  simpa using h1
/-- What the program's Parse answers. -/
def ParOut (n : Nat) (T : Nat → Spn) (w : World) (e : Ending) (w' : World) : Prop :=
  ∃ (v : Value) (L : List Nb) (lo : Nat), e = .returned (.tuple #[.agg #[v], .int .i64 (parC n T).1]) ∧ w.heap.size ≤ lo ∧ lo ≤ w'.heap.size ∧ NxB lo w' v L ∧ LbOk w' w.heap.size lo L ∧ L.map (fun z => z.1) = (parC n T).2 ∧ Below w.heap.size w w'
/-- The boxes of Parse's two results. -/
structure PR (w V : World) (x : Value) (y : Int) : Prop where
  t : V.heap[w.heap.size]? = some (.cells #[x] 26 (0, 0))
  c : V.heap[w.heap.size + 1]? = some (.cells #[.int .i64 y] 3 (0, 0))
  b : Below w.heap.size w V
section
variable {w V V' : World} {x : Value} {y : Int}
theorem PR.lt (h : PR w V x y) : w.heap.size + 1 < V.heap.size := lt_of_heapA h.c
theorem PR.keep (h : PR w V x y) (hb : Below V.heap.size V V') : PR w V' x y := ⟨by rw [hb.block _ (lt_of_heapA h.t)]; exact h.t, by rw [hb.block _ h.lt]; exact h.c, bTrans h.b hb⟩
theorem PR.below (h : PR w V x y) {g : Nat} (hg : w.heap.size + 1 < g) (hb : Below g V V') : PR w V' x y :=
  ⟨by rw [hb.block _ (by omega)]; exact h.t, by rw [hb.block _ hg]; exact h.c, h.b.trans (hb.mono (by omega))⟩
theorem PR.set (h : PR w V x y) (x' : Value) (y' : Int) : PR w ((V.setCell ⟨w.heap.size, 0, none⟩ x').setCell ⟨w.heap.size + 1, 0, none⟩ (.int .i64 y')) x' y' := by
  have w1 : Win w.heap.size (w.heap.size + 1) V (V.setCell ⟨w.heap.size, 0, none⟩ x') := win_setCell _ _ _ _
  have w2 : Win (w.heap.size + 1) (w.heap.size + 1 + 1) (V.setCell ⟨w.heap.size, 0, none⟩ x') ((V.setCell ⟨w.heap.size, 0, none⟩ x').setCell ⟨w.heap.size + 1, 0, none⟩ (.int .i64 y')) := win_setCell _ _ _ _
  have l := h.lt
  have e1 := one_set (x' := x') h.t
  have e2 : (V.setCell ⟨w.heap.size, 0, none⟩ x').heap[w.heap.size + 1]? = some (.cells #[.int .i64 y] 3 (0, 0)) := by rw [w1.block _ l (by omega)]; exact h.c
  exact ⟨by rw [w2.block _ (lt_of_heapA e1) (by omega)]; exact e1, one_set (x' := .int .i64 y') e2, below_setCell (below_setCell h.b (Nat.le_refl _) _ _) (by omega) _ _⟩
theorem PR.win (h : PR w V x y) (x' : Value) (y' : Int) : Win w.heap.size (w.heap.size + 1 + 1) V ((V.setCell ⟨w.heap.size, 0, none⟩ x').setCell ⟨w.heap.size + 1, 0, none⟩ (.int .i64 y')) :=
  ((Win.refl _ _ _).setCell (Nat.le_refl _) (by omega) _ _).setCell (by omega) (by omega) _ _
theorem PR.t0 (h : PR w V x y) : V.cell? ⟨w.heap.size, 0, none⟩ = some x := cell_at h.t rfl
theorem PR.c0 (h : PR w V x y) : V.cell? ⟨w.heap.size + 1, 0, none⟩ = some (.int .i64 y) := cell_at h.c rfl
theorem PR.tf (h : PR w V x y) : V.frozen? ⟨w.heap.size, 0, none⟩ = false := free_at h.t 0
theorem PR.cf (h : PR w V x y) : V.frozen? ⟨w.heap.size + 1, 0, none⟩ = false := free_at h.c 0
end
set_option maxRecDepth 20000 in
set_option maxHeartbeats 8000000 in
/-- The program's Parse. -/
theorem parse_impl {w : World} {a : Option Addr} {n c : Nat} {T : Nat → Spn} {te : TypeId} {pe : Value} (h : SsA w a n T) (hn : n ≤ 1048576) (he : ErrN w te pe) :
    Calls Tryd.prog 8 #[.slice a n c] w fun e w' => ParOut n T w e w' := by
  have hmf : ∀ (fn : Fn) (first cap : Array Value) (w : World), (Instr.makeFunc fn first cap).run Tryd.prog w = .ok (.func fn first cap) w := fun _ _ _ _ => rfl
  have H : Hid (SsA w a n T) := h
  have HE : Hid (ErrN w te pe) := he
  have q := two_blocksR w (.cells #[.slice none 0 0] 26) (.cells #[.int .i64 0] 3)
  have P0 : Hid (PR w ((w.alloc (.cells #[.slice none 0 0] 26)).alloc (.cells #[.int .i64 0] 3)) (.slice none 0 0) 0) := ⟨q.1, q.2, bAlloc (bAlloc (Below.refl _ _) _) _⟩
  have CT : Hid (∀ W, Below w.heap.size w W → Calls Tryd.prog 20 #[.slice a n c] W fun e w' => e = .returned (.bool (tokR n T)) ∧ Below W.heap.size W w') := fun W hb => tokensK_impl (h.keep hb) hn
  clear h he q
  by_cases hr : tokR n T = true
  · have HR : Hid (tokAll T n = true ∧ n ≤ 300) := by
      unfold tokR at hr
      simp only [Bool.and_eq_true, decide_eq_true_eq] at hr
      exact hr
    have EX : Hid (parC n T = match wholeP n T with
        | none => (8, [])
        | some b => if b.size ≤ 60 then (0, b.flat 0) else (6, [])) := by
      show _ = _
      unfold parC wholeP
      rw [if_pos hr]
      cases lineP n T (n + 1) 0 with
      | none => rfl
      | some x =>
        by_cases e : x.2 = n
        · simp only [if_pos e]
        · simp only [if_neg e]
    rw [hr] at CT
    clear hr
    have hn3 : n ≤ 300 := HR.out.2
    have CW : Hid (∀ W, Below w.heap.size w W → Calls Tryd.prog 22 #[.agg #[.slice a n c, .pointer (some ⟨W.heap.size, 0, none⟩)]] (W.alloc (.cells #[.int .i64 0] 3)) fun e w' => WhoP te pe (W.alloc (.cells #[.int .i64 0] 3)) W.heap.size (wholeP n T) e w') := fun W hb => by
      refine whole_impl HR.out.2 ⟨heap_alloc_new W _, ?_, ?_, ?_⟩
      · have hs := H.out.keep (bTrans hb (bAlloc (Below.refl W.heap.size W) (.cells #[.int .i64 0] 3)))
        have hz := hb.size
        rcases H.out with h | ⟨o, off, e, ho, _⟩
        · exact .inl h
        · rcases hs with h | ⟨o', off', e', ho', h'⟩
          · exact .inl h
          · rw [e] at e'
            cases e'
            exact .inr ⟨o, off, e, by omega, ho', h'⟩
      · exact ((bTrans hb (bAlloc (Below.refl W.heap.size W) (.cells #[.int .i64 0] 3))).cell (p := ⟨0, 0, none⟩) (World.block_lt_of_cell? w _ HE.out)).trans HE.out
      · have : 0 < w.heap.size := World.block_lt_of_cell? w _ HE.out
        have := hb.size
        omega
    cases hx : wholeP n T with
    | none =>
      rw [hx] at CW EX
      clear hx
      go_enter_defers Tryd.func8, Tryd.ntmps8
      go_wp2_with fail
      refine (CT.out _ P0.out.b).mono ?_
      rintro r w1 ⟨rfl, hb⟩
      have P1 : Hid (PR w w1 (.slice none 0 0) 0) := P0.out.keep hb
      clear hb CT P0 H
      have LG := P1.out.lt
      go_wp2_with fail
      refine (CW.out _ P1.out.b).mono ?_
      rintro r w2 ⟨rfl, hb⟩
      have hz : Below w1.heap.size w1 w2 := ((bAlloc (Below.refl _ _) _)).trans hb
      have P2 : Hid (PR w w2 (.slice none 0 0) 0) := P1.out.keep hz
      clear hb hz CW P1
      unfold Pan
      go_wp2
      refine leaves_cons (f := 21) (args := #[.pointer (some ⟨w.heap.size, 0, none⟩), .pointer (some ⟨w.heap.size + 1, 0, none⟩)]) (by simp) (by simp [go_sem]) ?_
      have y0 := P2.out.t0
      have y1 := P2.out.tf
      have P9 : Hid _ := P2.out.set (.slice none 0 0) 8
      refine (catch_pan ⟨w.heap.size, 0, none⟩ ⟨w.heap.size + 1, 0, none⟩ (.slice none 0 0) (.int .i64 0) te pe [] _ y0 y1 (fun v => ?_) (fun v => ?_)).mono ?_
      · have w9 : Win w.heap.size (w.heap.size + 1) w2 (w2.setCell ⟨w.heap.size, 0, none⟩ v) := win_setCell _ _ _ _
        exact cell_at (k := 0) (by rw [w9.block _ P2.out.lt (by omega)]; exact P2.out.c) rfl
      · have w9 : Win w.heap.size (w.heap.size + 1) w2 (w2.setCell ⟨w.heap.size, 0, none⟩ v) := win_setCell _ _ _ _
        exact free_at (by rw [w9.block _ P2.out.lt (by omega)]; exact P2.out.c) 0
      rintro e u' w9 ⟨rfl, rfl, hw9⟩
      rw [← hw9] at P9
      have e0 := P9.out.t0
      have e1 := P9.out.c0
      clear hw9
      simp [Leaves, settle, results, Tryd.results8, go_sem, e0, e1]
      exact ⟨_, [], w.heap.size, by rw [EX.out], Nat.le_refl _, P9.out.b.size, NxB.nil _ _, ⟨fun x hx => absurd hx (by simp), List.Pairwise.nil⟩, by rw [EX.out]; rfl, P9.out.b⟩
    | some b =>
      rw [hx] at CW EX
      simp only at EX
      have BS := b.size_pos
      have BH : Hid (b.size ≤ 300) := by
        show _ ≤ _
        unfold wholeP at hx
        cases hl : lineP n T (n + 1) 0 with
        | none => rw [hl] at hx; cases hx
        | some y =>
          rw [hl] at hx
          simp only at hx
          have := lineP_fine (n := n) (T := T) (n + 1) 0 _ hl
          split at hx
          · cases hx; omega
          · cases hx
      clear hx
      by_cases h6 : b.size ≤ 60
      · rw [if_pos h6] at EX
        go_enter_defers Tryd.func8, Tryd.ntmps8
        go_wp2_with fail
        refine (CT.out _ P0.out.b).mono ?_
        rintro r w1 ⟨rfl, hb⟩
        have P1 : Hid (PR w w1 (.slice none 0 0) 0) := P0.out.keep hb
        clear hb CT P0 H
        have LG := P1.out.lt
        go_wp2_with fail
        refine (CW.out _ P1.out.b).mono ?_
        rintro r w2 ⟨g, rfl, hB, hC⟩
        have hz : Below w1.heap.size w1 w2 := ((bAlloc (Below.refl _ _) _)).trans (hC.lo (by simp))
        have P2 : Hid (PR w w2 (.slice none 0 0) 0) := P1.out.keep hz
        have LD : Hid (Calls Tryd.prog 23 #[.pointer (some ⟨g, 0, none⟩), .slice none 0 0] w2 fun e w' => ∃ v' M, e = .returned v' ∧ NxB w2.heap.size w' v' ([] ++ M) ∧ M.map (fun z => z.1) = b.flat 0 ∧ LbOk w' (w1.alloc (.cells #[.int .i64 0] 3)).heap.size w2.heap.size M ∧ Gro (.slice none 0 0) w2 w' ∧ ∀ k, v'.ownBlock = some k → (Value.slice none 0 0).ownBlock = some k ∨ w2.heap.size ≤ k) := laid_impl b w2 _ _ g w2.heap.size (.slice none 0 0) [] hB (NxB.nil _ _) (Nat.le_refl _) (Nat.le_refl _) (by have := BH.out; simp; omega)
        clear hB hC hz CW P1
        go_wp2_with fail
        refine LD.out.mono ?_
        rintro r w3 ⟨v3, M, rfl, hN, hM, hL, hG, ho⟩
        rw [List.nil_append] at hN
        obtain ⟨a3, c3, ev3⟩ := hN.slice
        subst ev3
        have MLn : Hid (M.length = b.size) := by show _ = _; rw [← List.length_map (f := fun z : Nb => z.1), hM, Br.flat_len]
        have HM : Hid (M.map (fun z => z.1) = b.flat 0) := hM
        have P3 : Hid (PR w w3 (.slice none 0 0) 0) := P2.out.keep (hG.below (Nat.le_refl _) (fun k hk => by simp [Value.ownBlock] at hk))
        have N3 : Hid (NxB w2.heap.size w3 (.slice a3 M.length c3) M ∧ w.heap.size + 1 < w2.heap.size ∧ w2.heap.size ≤ w3.heap.size) := ⟨hN, P2.out.lt, hG.size⟩
        have L3 : Hid (LbOk w3 (w.heap.size + 1 + 1) w2.heap.size M) := ⟨fun x hx => ⟨(hL.1 x hx).1, fun hl => by have := (hL.1 x hx).2 hl; simp at this; omega⟩, hL.2⟩
        clear hN hM hL hG ho LD P2
        have y0 := P3.out.t0
        have y1 := P3.out.tf
        have y2 := P3.out.c0
        have y3 := P3.out.cf
        have h61 : ¬ ((60 : Int) < (M.length : Int)) := by have := MLn.out; omega
        have P9 : Hid _ := P3.out.set (.slice a3 M.length c3) 0
        have WN := P3.out.win (.slice a3 M.length c3) 0
        have N9 : Hid (NxB w2.heap.size ((w3.setCell ⟨w.heap.size, 0, none⟩ (.slice a3 M.length c3)).setCell ⟨w.heap.size + 1, 0, none⟩ (.int .i64 0)) (.slice a3 M.length c3) M) := N3.out.1.same fun k hk => WN.block k (N3.out.1.own k hk).2 (by have := (N3.out.1.own k hk).1; have := N3.out.2.1; omega)
        have L9 : Hid (LbOk ((w3.setCell ⟨w.heap.size, 0, none⟩ (.slice a3 M.length c3)).setCell ⟨w.heap.size + 1, 0, none⟩ (.int .i64 0)) (w.heap.size + 1 + 1) w2.heap.size M) := L3.out.same fun k h1 h2 => WN.block k (by have := N3.out.2.2; omega) (by omega)
        have Z9 : Hid (w.heap.size + 1 < w2.heap.size ∧ w2.heap.size ≤ ((w3.setCell ⟨w.heap.size, 0, none⟩ (.slice a3 M.length c3)).setCell ⟨w.heap.size + 1, 0, none⟩ (.int .i64 0)).heap.size) := ⟨N3.out.2.1, by simp only [size_setCell]; exact N3.out.2.2⟩
        clear WN P3 N3 L3
        go_wp2
        refine leaves_cons (f := 21) (args := #[.pointer (some ⟨w.heap.size, 0, none⟩), .pointer (some ⟨w.heap.size + 1, 0, none⟩)]) (by simp) (by simp [go_sem]) ?_
        obtain ⟨W9, hW9⟩ : ∃ W9, W9 = (w3.setCell ⟨w.heap.size, 0, none⟩ (.slice a3 M.length c3)).setCell ⟨w.heap.size + 1, 0, none⟩ (.int .i64 0) := ⟨_, rfl⟩
        rw [← hW9] at P9 N9 L9 Z9 ⊢
        clear hW9 y0 y1 y2 y3
        refine (catch_idle _ _ _).mono ?_
        rintro e u' w9 ⟨rfl, rfl, hw9⟩
        subst w9
        have e0 := P9.out.t0
        have e1 := P9.out.c0
        simp [Leaves, settle, results, Tryd.results8, go_sem, e0, e1]
        exact ⟨_, M, w2.heap.size, by rw [EX.out], by have := Z9.out.1; omega, Z9.out.2, N9.out, ⟨fun x hx => ⟨(L9.out.1 x hx).1, fun hl => by have := (L9.out.1 x hx).2 hl; omega⟩, L9.out.2⟩, by rw [EX.out]; exact HM.out, P9.out.b⟩
      · rw [if_neg h6] at EX
        go_enter_defers Tryd.func8, Tryd.ntmps8
        go_wp2_with fail
        refine (CT.out _ P0.out.b).mono ?_
        rintro r w1 ⟨rfl, hb⟩
        have P1 : Hid (PR w w1 (.slice none 0 0) 0) := P0.out.keep hb
        clear hb CT P0 H
        have LG := P1.out.lt
        go_wp2_with fail
        refine (CW.out _ P1.out.b).mono ?_
        rintro r w2 ⟨g, rfl, hB, hC⟩
        have hz : Below w1.heap.size w1 w2 := ((bAlloc (Below.refl _ _) _)).trans (hC.lo (by simp))
        have P2 : Hid (PR w w2 (.slice none 0 0) 0) := P1.out.keep hz
        have LD : Hid (Calls Tryd.prog 23 #[.pointer (some ⟨g, 0, none⟩), .slice none 0 0] w2 fun e w' => ∃ v' M, e = .returned v' ∧ NxB w2.heap.size w' v' ([] ++ M) ∧ M.map (fun z => z.1) = b.flat 0 ∧ LbOk w' (w1.alloc (.cells #[.int .i64 0] 3)).heap.size w2.heap.size M ∧ Gro (.slice none 0 0) w2 w' ∧ ∀ k, v'.ownBlock = some k → (Value.slice none 0 0).ownBlock = some k ∨ w2.heap.size ≤ k) := laid_impl b w2 _ _ g w2.heap.size (.slice none 0 0) [] hB (NxB.nil _ _) (Nat.le_refl _) (Nat.le_refl _) (by have := BH.out; simp; omega)
        clear hB hC hz CW P1
        go_wp2_with fail
        refine LD.out.mono ?_
        rintro r w3 ⟨v3, M, rfl, hN, hM, hL, hG, ho⟩
        rw [List.nil_append] at hN
        obtain ⟨a3, c3, ev3⟩ := hN.slice
        subst ev3
        have MLn : Hid (M.length = b.size) := by show _ = _; rw [← List.length_map (f := fun z : Nb => z.1), hM, Br.flat_len]
        have HM : Hid (M.map (fun z => z.1) = b.flat 0) := hM
        have P3 : Hid (PR w w3 (.slice none 0 0) 0) := P2.out.keep (hG.below (Nat.le_refl _) (fun k hk => by simp [Value.ownBlock] at hk))
        have N3 : Hid (NxB w2.heap.size w3 (.slice a3 M.length c3) M ∧ w.heap.size + 1 < w2.heap.size ∧ w2.heap.size ≤ w3.heap.size) := ⟨hN, P2.out.lt, hG.size⟩
        have L3 : Hid (LbOk w3 (w.heap.size + 1 + 1) w2.heap.size M) := ⟨fun x hx => ⟨(hL.1 x hx).1, fun hl => by have := (hL.1 x hx).2 hl; simp at this; omega⟩, hL.2⟩
        clear hN hM hL hG ho LD P2
        have y0 := P3.out.t0
        have y1 := P3.out.tf
        have y2 := P3.out.c0
        have y3 := P3.out.cf
        have h61 : ((60 : Int) < (M.length : Int)) := by have := MLn.out; omega
        have P9 : Hid _ := P3.out.set (.slice none 0 0) 6
        clear P3 N3 L3
        go_wp2
        refine leaves_cons (f := 21) (args := #[.pointer (some ⟨w.heap.size, 0, none⟩), .pointer (some ⟨w.heap.size + 1, 0, none⟩)]) (by simp) (by simp [go_sem]) ?_
        obtain ⟨W9, hW9⟩ : ∃ W9, W9 = (w3.setCell ⟨w.heap.size, 0, none⟩ (.slice none 0 0)).setCell ⟨w.heap.size + 1, 0, none⟩ (.int .i64 6) := ⟨_, rfl⟩
        rw [← hW9] at P9 ⊢
        clear hW9 y0 y1 y2 y3
        refine (catch_idle _ _ _).mono ?_
        rintro e u' w9 ⟨rfl, rfl, hw9⟩
        subst w9
        have e0 := P9.out.t0
        have e1 := P9.out.c0
        simp [Leaves, settle, results, Tryd.results8, go_sem, e0, e1]
        exact ⟨_, [], w.heap.size, by rw [EX.out], Nat.le_refl _, P9.out.b.size, NxB.nil _ _, ⟨fun x hx => absurd hx (by simp), List.Pairwise.nil⟩, by rw [EX.out]; rfl, P9.out.b⟩
  · have EX : Hid (parC n T = (1, [])) := by show _ = _; unfold parC; rw [if_neg hr]
    have hr2 : tokR n T = false := by simpa using hr
    rw [hr2] at CT
    clear hr hr2
    go_enter_defers Tryd.func8, Tryd.ntmps8
    go_wp2_with fail
    refine (CT.out _ P0.out.b).mono ?_
    rintro r w1 ⟨rfl, hb⟩
    have P1 : Hid (PR w w1 (.slice none 0 0) 0) := P0.out.keep hb
    clear hb CT P0 H
    have y0 := P1.out.t0
    have y1 := P1.out.tf
    have y2 := P1.out.c0
    have y3 := P1.out.cf
    have P9 : Hid _ := P1.out.set (.slice none 0 0) 1
    clear P1
    go_wp2
    obtain ⟨W9, hW9⟩ : ∃ W9, W9 = (w1.setCell ⟨w.heap.size, 0, none⟩ (.slice none 0 0)).setCell ⟨w.heap.size + 1, 0, none⟩ (.int .i64 1) := ⟨_, rfl⟩
    rw [← hW9] at P9 ⊢
    clear hW9 y0 y1 y2 y3
    have e0 := P9.out.t0
    have e1 := P9.out.c0
    simp [bodyPostD, Leaves, settle, results, Tryd.results8, go_sem, e0, e1]
    exact ⟨_, [], w.heap.size, by rw [EX.out], Nat.le_refl _, P9.out.b.size, NxB.nil _ _, ⟨fun x hx => absurd hx (by simp), List.Pairwise.nil⟩, by rw [EX.out]; rfl, P9.out.b⟩
end Go.Proofs.YtnebjnglcfebeaaDoor
namespace Go.Proofs.YtnebjnglcfebeaaDoor
open Go.RowKit
set_option linter.unusedVariables false
set_option linter.unusedSimpArgs false
def Br.small (K : Nat) : Br → Prop
  | .num l => l.length ≤ K
  | .name _ => True
  | .set _ r => r.small K
  | .one _ _ _ r => r.small K
  | .two _ _ _ l r => l.small K ∧ r.small K
theorem flat_small {K : Nat} : ∀ (b : Br) (m : Nat), b.small K → ∀ d, d ∈ b.flat m → d.l.length ≤ K
  | .num l, m, h, d, hd => by simp [Br.flat] at hd; subst hd; exact h
  | .name l, m, h, d, hd => by simp [Br.flat] at hd; subst hd; simp
  | .set a r, m, h, d, hd => by
    simp only [Br.flat, List.mem_append, List.mem_singleton] at hd
    rcases hd with hd | rfl
    · exact flat_small r m h d hd
    · simp
  | .one s o h' r, m, h, d, hd => by
    simp only [Br.flat, List.mem_append, List.mem_singleton] at hd
    rcases hd with hd | rfl
    · exact flat_small r m h d hd
    · simp
  | .two s o h' l r, m, h, d, hd => by
    simp only [Br.flat, List.mem_append, List.mem_singleton] at hd
    rcases hd with (hd | hd) | rfl
    · exact flat_small r m h.2 d hd
    · exact flat_small l (m + r.size) h.1 d hd
    · simp
def Sm (K : Nat) (x : Option (Br × Nat)) : Prop := ∀ y, x = some y → y.1.small K
theorem operP_small {n : Nat} {T : Nat → Spn} {line : Nat → Option (Br × Nat)} {p : Nat} (h : Sm n (line (p + 1))) : Sm n (operP n T line p) := by
  intro y hy
  unfold operP at hy
  split at hy
  · rename_i e
    have hp := tkK_in (n := n) (T := T) (p := p) (by omega)
    have := runN_le (n := n) (T := T) p (by omega)
    cases hy
    simp only [Br.small, numsP, List.length_map, List.length_range]
    omega
  · split at hy
    · cases hy; trivial
    · split at hy
      · cases hl : line (p + 1) with
        | none => rw [hl] at hy; cases hy
        | some x =>
          rw [hl] at hy
          simp only at hy
          split at hy
          · cases hy; exact h x hl
          · cases hy
      · cases hy
theorem lineP_small {n : Nat} {T : Nat → Spn} : ∀ (k p : Nat), Sm n (lineP n T k p)
  | 0, p => fun y hy => by cases hy
  | k + 1, p => by
    intro y hy
    unfold lineP at hy
    split at hy
    · cases hl : lineP n T k (p + 2) with
      | none => rw [hl] at hy; cases hy
      | some x =>
        rw [hl] at hy
        cases hy
        exact lineP_small k (p + 2) x hl
    · split at hy
      · split at hy
        · cases hl : lineP n T k (funP n T p).2 with
          | none => rw [hl] at hy; cases hy
          | some x =>
            rw [hl] at hy
            cases hy
            exact lineP_small k _ x hl
        · cases hy
      · have hop := operP_small (n := n) (T := T) (line := fun q => lineP n T k q) (p := p) (lineP_small k (p + 1))
        cases ho : operP n T (fun q => lineP n T k q) p with
        | none => rw [ho] at hy; cases hy
        | some x =>
          rw [ho] at hy
          simp only at hy
          split at hy
          · split at hy
            · cases hl : lineP n T k (funP n T x.2).2 with
              | none => rw [hl] at hy; cases hy
              | some z =>
                rw [hl] at hy
                cases hy
                exact ⟨hop x ho, lineP_small k _ z hl⟩
            · cases hy
          · cases hy
            exact hop _ ho
theorem parC_small (n : Nat) (T : Nat → Spn) : (parC n T).2.length ≤ 60 ∧ ∀ d, d ∈ (parC n T).2 → d.l.length ≤ 300 := by
  unfold parC
  by_cases hr : tokR n T = true
  · rw [if_pos hr]
    have hn : n ≤ 300 := by unfold tokR at hr; simp only [Bool.and_eq_true, decide_eq_true_eq] at hr; exact hr.2
    cases hl : lineP n T (n + 1) 0 with
    | none => simp
    | some x =>
      simp only
      split
      · split
        · rename_i h6
          simp only
          refine ⟨by rw [Br.flat_len]; exact h6, fun d hd => Nat.le_trans (flat_small x.1 0 (lineP_small (n := n) (T := T) (n + 1) 0 x hl) d hd) hn⟩
        · simp
      · simp
  · rw [if_neg hr]; simp
theorem ndN_small {l : List Nd} {K : Nat} (h : ∀ d, d ∈ l → d.l.length ≤ K) (i : Nat) : (ndN l i).length ≤ K := by
  unfold ndN
  rw [List.getD_eq_getElem?_getD]
  cases hx : l[i]? with
  | none => simp [nb0]
  | some d => exact h d (List.mem_of_getElem? hx)
theorem totN_small {N : Nat → List Int} (h : ∀ i, (N i).length ≤ 300) : ∀ j, totN 6 N j ≤ j * 306
  | 0 => by simp [totN]
  | j + 1 => by
    have := totN_small h j
    have := h j
    rw [totN]
    omega
/-- A list of nodes, told by what lies from lo to hi. -/
def ExW (lo hi : Nat) (w : World) (v : Value) (n : Nat) (E : Nat → Nat → Int) (N : Nat → List Int) : Prop := hi ≤ w.heap.size ∧ ∀ w', (∀ k, lo ≤ k → k < hi → w'.heap[k]? = w.heap[k]?) → ExprsI w' v n E N
section
variable {lo hi n : Nat} {w w' : World} {v : Value} {E : Nat → Nat → Int} {N : Nat → List Int}
theorem ExW.list (h : ExW lo hi w v n E N) : ExprsI w v n E N := h.2 w fun _ _ _ => rfl
theorem ExW.same (h : ExW lo hi w v n E N) (hs : w.heap.size ≤ w'.heap.size) (hb : ∀ k, lo ≤ k → k < hi → w'.heap[k]? = w.heap[k]?) : ExW lo hi w' v n E N :=
  ⟨Nat.le_trans h.1 hs, fun w2 h2 => h.2 w2 fun k h3 h4 => (h2 k h3 h4).trans (hb k h3 h4)⟩
theorem ExW.keep (h : ExW lo hi w v n E N) (hb : Below w.heap.size w w') : ExW lo hi w' v n E N := h.same hb.size fun k _ h2 => hb.block k (by have := h.1; omega)
theorem ExW.win {B C : Nat} (h : ExW lo hi w v n E N) (hw : Win B C w w') (hd : hi ≤ B ∨ C ≤ lo) : ExW lo hi w' v n E N := h.same hw.size fun k h1 h2 => hw.block k (by have := h.1; omega) (by omega)
end
theorem NL.exW {g : Nat} {w : World} {v : Value} {L : List Nb} (h : NL g w v L) : ExW (g + 1) w.heap.size w v L.length (ndE (L.map (fun z => z.1))) (ndN (L.map (fun z => z.1))) :=
  ⟨Nat.le_refl _, fun w' hb => (h.same fun k h1 h2 => hb k h1 h2).exprs⟩
/-- Both sides, in the same words. -/
theorem parse_specW {w : World} {a : Option Addr} {n c : Nat} {T : Nat → Spn} (h : SsA w a n T) (hn : n ≤ 1048576) :
    Calls Tryd.prog 6 #[.slice a n c] w fun e w' => ∃ u, e = .returned (.tuple #[.agg #[u], .int .i64 (parC n T).1]) ∧ ExW w.heap.size w'.heap.size w' u (parC n T).2.length (ndE (parC n T).2) (ndN (parC n T).2) ∧ Below w.heap.size w w' := by
  refine (parse_spec h hn).mono ?_
  rintro e w' ⟨v, g, L, rfl, hg, hN, hL, hb⟩
  have hx := hN.exW
  rw [hL] at hx
  have hl : L.length = (parC n T).2.length := by rw [← hL, List.length_map]
  rw [hl] at hx
  exact ⟨v, rfl, ⟨hx.1, fun w2 h2 => hx.2 w2 fun k h3 h4 => h2 k (by omega) h4⟩, hb⟩
theorem parse_implW {w : World} {a : Option Addr} {n c : Nat} {T : Nat → Spn} {te : TypeId} {pe : Value} (h : SsA w a n T) (hn : n ≤ 1048576) (he : ErrN w te pe) :
    Calls Tryd.prog 8 #[.slice a n c] w fun e w' => ∃ u, e = .returned (.tuple #[.agg #[u], .int .i64 (parC n T).1]) ∧ OwnVT w.heap.size w'.heap.size w' u (parC n T).2.length (ndE (parC n T).2) (ndN (parC n T).2) ∧ Below w.heap.size w w' := by
  refine (parse_impl h hn he).mono ?_
  rintro e w' ⟨v, L, lo, rfl, h0, h1, hN, hO, hL, hb⟩
  have hx := hN.ownVT hO h0 h1
  rw [hL] at hx
  have hl : L.length = (parC n T).2.length := by rw [← hL, List.length_map]
  rw [hl] at hx
  exact ⟨v, rfl, hx, hb⟩
/-- What a wrong line is told by is there. -/
def ErrX (w : World) : Prop := ∃ te pe, ErrN w te pe
theorem ErrX.on {w w' : World} (h : ErrX w) (hb : Below w.heap.size w w') : ErrX w' := by
  obtain ⟨te, pe, h⟩ := h
  exact ⟨te, pe, (hb.cell (p := ⟨0, 0, none⟩) (World.block_lt_of_cell? w _ h)).trans h⟩
theorem parse_implX {w : World} {a : Option Addr} {n c : Nat} {T : Nat → Spn} (h : SsA w a n T) (hn : n ≤ 1048576) (he : ErrX w) :
    Calls Tryd.prog 8 #[.slice a n c] w fun e w' => ∃ u, e = .returned (.tuple #[.agg #[u], .int .i64 (parC n T).1]) ∧ OwnVT w.heap.size w'.heap.size w' u (parC n T).2.length (ndE (parC n T).2) (ndN (parC n T).2) ∧ Below w.heap.size w w' := by
  obtain ⟨te, pe, h2⟩ := he
  exact parse_implW h hn h2
end Go.Proofs.YtnebjnglcfebeaaDoor
