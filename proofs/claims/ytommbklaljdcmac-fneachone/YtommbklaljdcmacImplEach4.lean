/-
  Walks: the program's EachOne.
-/
import Derived.Test.YtommbklaljdcmacImplEach2
import Derived.Deep.RegionHeld3
namespace Go.Proofs.Ytommbklaljdcmac
open Go.RowKit
set_option linter.unusedVariables false
set_option linter.unusedSimpArgs false
theorem three_blocks (w : World) (A B C : Obj) : (((w.alloc A).alloc B).alloc C).heap[w.heap.size]? = some A ∧ (((w.alloc A).alloc B).alloc C).heap[w.heap.size + 1]? = some B ∧ (((w.alloc A).alloc B).alloc C).heap[w.heap.size + 1 + 1]? = some C := by
  have e1 := heap_alloc_new w A
  have e2 := heap_alloc_new (w.alloc A) B
  have e3 := heap_alloc_new ((w.alloc A).alloc B) C
  simp only [World.size_alloc] at e2 e3
  refine ⟨?_, ?_, e3⟩
  · rw [heap_alloc_old _ _ (by simp only [World.size_alloc]; omega), heap_alloc_old _ _ (by simp only [World.size_alloc]; omega)]; exact e1
  · rw [heap_alloc_old _ _ (by simp only [World.size_alloc]; omega)]; exact e2
theorem oneImpl_bad {g : Int} {s d : List Int} (h : eachOneC g s d ≠ 0) : eachOneS g s d = [] ∧ eachOneD g s d = [] := by
  unfold eachOneS eachOneD; rw [if_neg h, if_neg h]; exact ⟨rfl, rfl⟩
set_option maxRecDepth 20000 in
set_option maxHeartbeats 4000000 in
/-- EachOne. -/
theorem eachOne_impl {g : Int} {s d : List Int} {w : World} {v : Value} (h : ArrI w v s d) (hs : s.length ≤ 1048576) (hd : d.length ≤ 1048576) :
    Calls Try.prog 14 #[.int .i64 g, v] w fun e w' => ∃ v', e = .returned (.tuple #[v', .int .i64 (eachOneC g s d)]) ∧ Arr w.heap.size w'.heap.size w' v' (eachOneS g s d) (eachOneD g s d) ∧ Below w.heap.size w w' := by
  have H : Hid (ArrI w v s d) := h
  obtain ⟨a, c, b, f, rfl, h1, h2, g1, g2⟩ := h
  have H1 : Hid (IntsI w (.slice a s.length c) s) := ⟨a, c, rfl, g1, h1⟩
  have HS : Hid (s.length ≤ 1048576) := hs
  have HD : Hid (d.length ≤ 1048576) := hd
  clear h1 h2 g1 g2 hs hd
  by_cases ho : arrOk s d = true
  · have HO : Hid (arrOk s d = true) := ho
    by_cases hg : sign1 g = true
    · have HG : Hid (sign1 g = true) := hg
      have EC : Hid (eachOneC g s d = placesC (fun i => oneV g (d.getD i 0)) d.length) := by show _ = _; unfold eachOneC placesC; rw [if_pos ⟨ho, hg⟩]
      have ES : Hid (eachOneS g s d = if placesC (fun i => oneV g (d.getD i 0)) d.length = 0 then s else []) := by show _ = _; unfold eachOneS; rw [EC.out]
      have ED : Hid (eachOneD g s d = placesD (fun i => oneV g (d.getD i 0)) d.length) := by show _ = _; unfold eachOneD placesD; rw [EC.out]
      have HFL : Hid (∀ (W : World) (q o B E : Nat) (sa : Option Addr) (sc : Nat), Below w.heap.size w W → W.cell? ⟨q, 0, none⟩ = some (.int .i64 g) → q < W.heap.size → Box W o (.slice a s.length c) (.slice b d.length f) 26 → Piece B E W (.slice sa s.length sc) s → B ≤ E → E ≤ W.heap.size →
          Calls Try.prog 24 #[.slice sa s.length sc, .func (.func 41) #[] #[.pointer (some ⟨q, 0, none⟩)], .slice (some ⟨o, 0, none⟩) 1 1] W fun r w' => ∃ v', r = .returned (.tuple #[v', .int .i64 (eachOneC g s d)]) ∧ Arr B w'.heap.size w' v' (eachOneS g s d) (eachOneD g s d) ∧ Below W.heap.size W w') := by
        intro W q o B E sa sc hb hq hqs ho2 hp hBE hEW
        rw [EC.out, ES.out, ED.out]
        have z1 := arrOk_size ho
        have l1 := arrOk_len ho
        refine filled_impl (F := [s, d]) (enters_of Try.func41 (by kernel_rfl) rfl) (arrs_one ho2 (H.out.keep hb)) (by decide) (by omega) ?_ ?_ ?_ hp hBE hEW z1
        · intro j
          match j with
          | 0 => exact HS.out
          | 1 => exact HD.out
          | j + 2 => simp
        · intro i hi
          have k1 : s = [] → d.length = 1 := by rintro rfl; rw [sizeV_0'] at z1; omega
          match i, hi with
          | 0, _ => exact ⟨fun q => by have := k1 q; show 0 < d.length; omega, fun q => Nat.le_refl _⟩
        · intro W' A k hk hb' hi
          rw [numsAt_one, numOf_at ho hk] at hi
          exact does1_impl hi ((hb'.cell (p := ⟨q, 0, none⟩) hqs).trans hq)
      clear hg ho EC ES ED
      generalize eachOneC g s d = C at *
      generalize eachOneS g s d = S at *
      generalize eachOneD g s d = D at *
      go_enter Try.func14, Try.ntmps14
      go_wp2_with fail
      refine (arrOk_impl (H.out.keep (bAlloc (bAlloc (bAlloc (Below.refl _ _) _) _) _)) HD.out).mono ?_
      rintro r w1 ⟨rfl, hb⟩
      have HB1 : Hid (Below w.heap.size w w1) := bTrans (bAlloc (bAlloc (bAlloc (Below.refl _ _) _) _) _) hb
      have q1 := three_blocks w (.cells #[.int .i64 g] 3) (.cells #[.slice a s.length c, .slice b d.length f] 26) (.cells #[.slice none 0 0, .slice none 0 0] 26)
      have G1 : Hid (w1.heap[w.heap.size]? = some (.cells #[.int .i64 g] 3)) := by show _ = _; rw [hb.block _ (lt_of_heapA q1.1)]; exact q1.1
      have X1 : Hid (Box w1 (w.heap.size + 1) (.slice a s.length c) (.slice b d.length f) 26) := Box.keep q1.2.1 hb
      have R1 : Hid (Box w1 (w.heap.size + 1 + 1) (.slice none 0 0) (.slice none 0 0) 26) := Box.keep q1.2.2 hb
      have g0 := cell_at (k := 0) G1.out rfl
      clear hb q1
      rw [HO.out]
      go_wp2_with fail
      refine (knownOne_impl g _).mono ?_
      rintro r W ⟨rfl, hb⟩
      have HB2 : Hid (Below w.heap.size w W) := bTrans HB1.out hb
      have G2 : Hid (W.heap[w.heap.size]? = some (.cells #[.int .i64 g] 3)) := by show _ = _; rw [hb.block _ (lt_of_heapA G1.out)]; exact G1.out
      have X2 : Hid (Box W (w.heap.size + 1) (.slice a s.length c) (.slice b d.length f) 26) := X1.out.keep hb
      have R2 : Hid (Box W (w.heap.size + 1 + 1) (.slice none 0 0) (.slice none 0 0) 26) := R1.out.keep hb
      rw [HG.out]
      clear hb g0 G1 X1 R1
      have x0 := X2.out.c0
      have x1 := X2.out.c1
      have LQ : Hid (w.heap.size + 1 < W.heap.size) := X2.out.lt
      have LR : Hid (w.heap.size + 1 + 1 < W.heap.size) := R2.out.lt
      go_wp2
      have u0 := (fun O : Obj => (show (World.drew (W.alloc O)).cell? ⟨w.heap.size + 1, 0, none⟩ = some (.slice a s.length c) from (X2.out.keep (bAlloc (Below.refl _ _) O)).c0))
      have u1 := (fun O : Obj => (show (World.drew (W.alloc O)).cell? ⟨w.heap.size + 1, 1, none⟩ = some (.slice b d.length f) from (X2.out.keep (bAlloc (Below.refl _ _) O)).c1))
      go_region_held3 (fun w' => w'.cell? ⟨w.heap.size + 1, 0, none⟩ = some (.slice a s.length c) ∧ w'.cell? ⟨w.heap.size + 1, 1, none⟩ = some (.slice b d.length f))
        (first | (refine ⟨?_, ?_⟩ <;> (first | with_reducible assumption | simp only [*])) | exact ⟨x0, x1⟩)
        (first
          | (go_at_call 30; refine (copied_new (H1.out.keep (bTrans HB2.out (by repeat first | exact (Below.refl _ _).drew | exact Below.refl _ _ | refine bAlloc ?_ _ | refine Below.drew ?_))) HS.out).mono ?_; rintro r w3 ⟨ax, cx, rfl, ha, hb⟩; have SB : Hid (_ ≤ w3.heap.size) := hb.size; have PX : Hid (Piece _ w3.heap.size w3 (.slice ax s.length cx) s) := ha; have HB3 : Hid (Below W.heap.size W w3) := bTrans (by repeat first | exact (Below.refl _ _).drew | exact Below.refl _ _ | refine bAlloc ?_ _ | refine Below.drew ?_) hb; (try have BQ : Hid (Box w3 W.heap.size (.slice a s.length c) (.slice b d.length f) 26) := Box.keep (w := World.drew (World.alloc W (.cells #[.slice a s.length c, .slice b d.length f] 26))) (box_new W _ _ _) hb); have y0 := (X2.out.keep HB3.out).c0; have y1 := (X2.out.keep HB3.out).c1; have z0 := (fun O : Obj => (X2.out.keep (bAlloc HB3.out O)).c0); have z1 := (fun O : Obj => (X2.out.keep (bAlloc HB3.out O)).c1); clear ha hb)
          | (go_at_call_of 24 (Value.slice (some ⟨w3.heap.size, 0, none⟩) 1 1); refine (HFL.out _ w.heap.size w3.heap.size _ w3.heap.size ax cx (bAlloc (bTrans HB2.out HB3.out) _) (((bAlloc HB3.out _).cell (p := ⟨w.heap.size, 0, none⟩) (lt_of_heapA G2.out)).trans (cell_at G2.out rfl)) (Nat.lt_of_lt_of_le (lt_of_heapA G2.out) (bAlloc HB3.out _).size) (box_new w3 _ _ _) (PX.out.keep (bAlloc (Below.refl _ _) _)) SB.out (bAlloc (Below.refl w3.heap.size w3) _).size).mono ?_; rintro r w4 ⟨v4, rfl, ha, hb⟩; obtain ⟨a4, c4, b4, e4, rfl, _, _, _, _⟩ := ha.arrI; have HA4 : Hid (Arr W.heap.size w4.heap.size w4 (.agg #[.slice a4 S.length c4, .slice b4 D.length e4]) S D) := ha.mono (by simp; try omega) (Nat.le_refl _); have HB4 : Hid (Below W.heap.size W w4) := bTrans (bAlloc HB3.out _) hb; have v0 := (X2.out.keep HB4.out).c0; have v1 := (X2.out.keep HB4.out).c1; have R4 : Hid (Box w4 (w.heap.size + 1 + 1) (.slice none 0 0) (.slice none 0 0) 26) := R2.out.keep HB4.out; have r0 := R4.out.c0; have r1 := R4.out.c1; have f0 : w4.frozen? ⟨w.heap.size + 1 + 1, 0, none⟩ = false := free_at R4.out 0; have f1 : w4.frozen? ⟨w.heap.size + 1 + 1, 1, none⟩ = false := free_at R4.out 1; have zz : ∀ u v, Box ((w4.setCell ⟨w.heap.size + 1 + 1, 0, none⟩ u).setCell ⟨w.heap.size + 1 + 1, 1, none⟩ v) (w.heap.size + 1) (.slice a s.length c) (.slice b d.length f) 26 := (fun u v => ((X2.out.keep HB4.out).win (win_setCell _ _ _ _) (.inl (Nat.lt_succ_self _))).win (win_setCell _ _ _ _) (.inl (Nat.lt_succ_self _))); have s0 := (fun u v => (zz u v).c0); have s1 := (fun u v => (zz u v).c1); have HR : Hid (((w4.setCell ⟨w.heap.size + 1 + 1, 0, none⟩ (.slice a4 S.length c4)).setCell ⟨w.heap.size + 1 + 1, 1, none⟩ (.slice b4 D.length e4)).heap[w.heap.size + 1 + 1]? = some (.cells #[.slice a4 S.length c4, .slice b4 D.length e4] 26 (0, 0))) := arr_stored R4.out; clear ha hb zz)
          | (go_at_call_of 24 (Value.slice (some ⟨W.heap.size, 0, none⟩) 1 1); refine (HFL.out _ w.heap.size W.heap.size _ w3.heap.size ax cx (bTrans HB2.out HB3.out) ((HB3.out.cell (p := ⟨w.heap.size, 0, none⟩) (lt_of_heapA G2.out)).trans (cell_at G2.out rfl)) (Nat.lt_of_lt_of_le (lt_of_heapA G2.out) HB3.out.size) BQ.out PX.out SB.out (Nat.le_refl _)).mono ?_; rintro r w4 ⟨v4, rfl, ha, hb⟩; obtain ⟨a4, c4, b4, e4, rfl, _, _, _, _⟩ := ha.arrI; have HA4 : Hid (Arr W.heap.size w4.heap.size w4 (.agg #[.slice a4 S.length c4, .slice b4 D.length e4]) S D) := ha.mono (by simp; try omega) (Nat.le_refl _); have HB4 : Hid (Below W.heap.size W w4) := bTrans HB3.out hb; have v0 := (X2.out.keep HB4.out).c0; have v1 := (X2.out.keep HB4.out).c1; have R4 : Hid (Box w4 (w.heap.size + 1 + 1) (.slice none 0 0) (.slice none 0 0) 26) := R2.out.keep HB4.out; have r0 := R4.out.c0; have r1 := R4.out.c1; have f0 : w4.frozen? ⟨w.heap.size + 1 + 1, 0, none⟩ = false := free_at R4.out 0; have f1 : w4.frozen? ⟨w.heap.size + 1 + 1, 1, none⟩ = false := free_at R4.out 1; have zz : ∀ u v, Box ((w4.setCell ⟨w.heap.size + 1 + 1, 0, none⟩ u).setCell ⟨w.heap.size + 1 + 1, 1, none⟩ v) (w.heap.size + 1) (.slice a s.length c) (.slice b d.length f) 26 := (fun u v => ((X2.out.keep HB4.out).win (win_setCell _ _ _ _) (.inl (Nat.lt_succ_self _))).win (win_setCell _ _ _ _) (.inl (Nat.lt_succ_self _))); have s0 := (fun u v => (zz u v).c0); have s1 := (fun u v => (zz u v).c1); have HR : Hid (((w4.setCell ⟨w.heap.size + 1 + 1, 0, none⟩ (.slice a4 S.length c4)).setCell ⟨w.heap.size + 1 + 1, 1, none⟩ (.slice b4 D.length e4)).heap[w.heap.size + 1 + 1]? = some (.cells #[.slice a4 S.length c4, .slice b4 D.length e4] 26 (0, 0))) := arr_stored R4.out; clear ha hb zz))
      all_goals
        go_wp2
        refine bodyPost_ret (results_arr_tmp Try.results14 _ _ (w.heap.size + 1 + 1) _ _ rfl HR.out) rfl ?_
        refine ⟨_, rfl, ?_, below_setCell (below_setCell (bTrans HB2.out HB4.out) (by omega) _ _) (by omega) _ _⟩
        have L := LR.out
        exact ((HA4.out.setCell L _ _).setCell L _ _).mono (by omega) (by simp only [size_setCell]; omega)
    · have HG : Hid (sign1 g = false) := by show _ = _; simpa using hg
      have EC : Hid (eachOneC g s d = 1) := by show _ = _; unfold eachOneC; rw [if_neg (fun q => hg q.2)]
      obtain ⟨es, ed⟩ := oneImpl_bad (g := g) (s := s) (d := d) (by rw [EC.out]; decide)
      rw [EC.out, es, ed]
      clear EC es ed hg ho
      go_enter Try.func14, Try.ntmps14
      go_wp2_with fail
      refine (arrOk_impl (H.out.keep (bAlloc (bAlloc (bAlloc (Below.refl _ _) _) _) _)) HD.out).mono ?_
      rintro r w1 ⟨rfl, hb⟩
      have HB1 : Hid (Below w.heap.size w w1) := bTrans (bAlloc (bAlloc (bAlloc (Below.refl _ _) _) _) _) hb
      have q1 := three_blocks w (.cells #[.int .i64 g] 3) (.cells #[.slice a s.length c, .slice b d.length f] 26) (.cells #[.slice none 0 0, .slice none 0 0] 26)
      have G1 : Hid (w1.heap[w.heap.size]? = some (.cells #[.int .i64 g] 3)) := by show _ = _; rw [hb.block _ (lt_of_heapA q1.1)]; exact q1.1
      have X1 : Hid (Box w1 (w.heap.size + 1) (.slice a s.length c) (.slice b d.length f) 26) := Box.keep q1.2.1 hb
      have R1 : Hid (Box w1 (w.heap.size + 1 + 1) (.slice none 0 0) (.slice none 0 0) 26) := Box.keep q1.2.2 hb
      have g0 := cell_at (k := 0) G1.out rfl
      clear hb q1
      rw [HO.out]
      go_wp2_with fail
      refine (knownOne_impl g _).mono ?_
      rintro r W ⟨rfl, hb⟩
      have HB2 : Hid (Below w.heap.size w W) := bTrans HB1.out hb
      have R2 : Hid (Box W (w.heap.size + 1 + 1) (.slice none 0 0) (.slice none 0 0) 26) := R1.out.keep hb
      rw [HG.out]
      clear hb g0 G1 X1 R1
      have r0 := R2.out.c0
      have r1 := R2.out.c1
      have f0 : W.frozen? ⟨w.heap.size + 1 + 1, 0, none⟩ = false := free_at R2.out 0
      have f1 : W.frozen? ⟨w.heap.size + 1 + 1, 1, none⟩ = false := free_at R2.out 1
      have HR : Hid (((W.setCell ⟨w.heap.size + 1 + 1, 0, none⟩ (.slice none 0 0)).setCell ⟨w.heap.size + 1 + 1, 1, none⟩ (.slice none 0 0)).heap[w.heap.size + 1 + 1]? = some (.cells #[.slice none 0 0, .slice none 0 0] 26 (0, 0))) := arr_stored R2.out
      go_wp2
      refine bodyPost_ret (results_arr_tmp Try.results14 _ _ (w.heap.size + 1 + 1) _ _ rfl HR.out) rfl ?_
      exact ⟨_, rfl, arr_zero _ _ _, below_setCell (below_setCell HB2.out (by omega) _ _) (by omega) _ _⟩
  · have HO : Hid (arrOk s d = false) := by show _ = _; simpa using ho
    have EC : Hid (eachOneC g s d = 1) := by show _ = _; unfold eachOneC; rw [if_neg (fun q => ho q.1)]
    obtain ⟨es, ed⟩ := oneImpl_bad (g := g) (s := s) (d := d) (by rw [EC.out]; decide)
    rw [EC.out, es, ed]
    clear EC es ed ho
    go_enter Try.func14, Try.ntmps14
    go_wp2_with fail
    refine (arrOk_impl (H.out.keep (bAlloc (bAlloc (bAlloc (Below.refl _ _) _) _) _)) HD.out).mono ?_
    rintro r w1 ⟨rfl, hb⟩
    have HB1 : Hid (Below w.heap.size w w1) := bTrans (bAlloc (bAlloc (bAlloc (Below.refl _ _) _) _) _) hb
    have q1 := three_blocks w (.cells #[.int .i64 g] 3) (.cells #[.slice a s.length c, .slice b d.length f] 26) (.cells #[.slice none 0 0, .slice none 0 0] 26)
    have G1 : Hid (w1.heap[w.heap.size]? = some (.cells #[.int .i64 g] 3)) := by show _ = _; rw [hb.block _ (lt_of_heapA q1.1)]; exact q1.1
    have X1 : Hid (Box w1 (w.heap.size + 1) (.slice a s.length c) (.slice b d.length f) 26) := Box.keep q1.2.1 hb
    have R1 : Hid (Box w1 (w.heap.size + 1 + 1) (.slice none 0 0) (.slice none 0 0) 26) := Box.keep q1.2.2 hb
    have g0 := cell_at (k := 0) G1.out rfl
    clear hb q1
    rw [HO.out]
    have r0 := R1.out.c0
    have r1 := R1.out.c1
    have f0 : w1.frozen? ⟨w.heap.size + 1 + 1, 0, none⟩ = false := free_at R1.out 0
    have f1 : w1.frozen? ⟨w.heap.size + 1 + 1, 1, none⟩ = false := free_at R1.out 1
    have HR : Hid (((w1.setCell ⟨w.heap.size + 1 + 1, 0, none⟩ (.slice none 0 0)).setCell ⟨w.heap.size + 1 + 1, 1, none⟩ (.slice none 0 0)).heap[w.heap.size + 1 + 1]? = some (.cells #[.slice none 0 0, .slice none 0 0] 26 (0, 0))) := arr_stored R1.out
    go_wp2
    refine bodyPost_ret (results_arr_tmp Try.results14 _ _ (w.heap.size + 1 + 1) _ _ rfl HR.out) rfl ?_
    exact ⟨_, rfl, arr_zero _ _ _, below_setCell (below_setCell HB1.out (by omega) _ _) (by omega) _ _⟩
end Go.Proofs.Ytommbklaljdcmac
