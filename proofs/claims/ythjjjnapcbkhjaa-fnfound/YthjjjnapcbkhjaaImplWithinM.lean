/-
  Walks: the program's Within.
-/
import Derived.Test.YthjjjnapcbkhjaaLookLM
import Derived.Test.YthjjjnapcbkhjaaImplEach1M
import Derived.Test.YthjjjnapcbkhjaaImplMake1M
namespace Go.Proofs.Ythjjjnapcbkhjaa
open Go.RowKit
set_option linter.unusedVariables false
set_option linter.unusedSimpArgs false
theorem withinR_bad {s d t e : List Int} (h : ¬ (arrOk s d = true ∧ arrOk t e = true)) : withinR s d t e = (1, [], []) := by
  unfold withinR withinC; rw [if_neg h]; rfl
theorem withinR_good {s d t e : List Int} (h : arrOk s d = true ∧ arrOk t e = true) : withinR s d t e = (0, s, (List.range d.length).map (fun i => if placeIn e (d.getD i 0) < e.length then 1 else 0)) := by
  unfold withinR withinC; rw [if_pos h]; rfl
theorem firstC_none {g : Nat → Int} (h : ∀ i, g i = 0) : ∀ n, firstC g n = 0 := by
  intro n
  induction n with
  | zero => rfl
  | succ n ih => exact firstC_go ih (h n)
theorem nums_wf {s d : List Int} (ho : arrOk s d = true) {j : Nat} (hj : j < d.length) : (Lit.int .i64 (d.getD j 0)).wf = true := by
  unfold arrOk at ho
  rw [Bool.and_eq_true, List.all_eq_true] at ho
  have := ok_bd (ho.2 (d.getD j 0) (by simp [hj]))
  exact wf_i64 this.1 this.2
/-- placesOf, of a list of right numbers wherever it lies. -/
theorem places_impl {s d : List Int} {a : Option Addr} {c : Nat} {w : World} (h : Ints w a d) (ho : arrOk s d = true) (hw : 0 < w.heap.size) :
    Calls Try.prog 41 #[.slice a d.length c] w fun r w' => ∃ b g, r = .returned (.tuple #[.map (some b), .slice (some ⟨g, 0, none⟩) d.length d.length]) ∧ MapAt w' b d.length (firstM d d.length) ∧ w.heap.size ≤ b ∧ Below w.heap.size w w' := by
  have hc : d.length ≤ 300 := by have := arrOk_len ho; omega
  rcases h with rfl | ⟨b1, o1, rfl, hb1, hcell⟩
  · exact places_walk (b1 := 0) (o1 := 0) (fun j hj => by simp at hj) (fun q => by simp at q) hw hc (fun j hj => by simp at hj)
  · exact places_walk hcell (fun _ => rfl) hb1 hc (fun j hj => nums_wf ho hj)
set_option maxRecDepth 20000 in
set_option maxHeartbeats 8000000 in
/-- Within. -/
theorem within_impl {s d t e : List Int} {w : World} {v u : Value} (h : ArrI w v s d) (k : ArrI w u t e) (hs : s.length ≤ 1048576) (hd : d.length ≤ 1048576) (ht : t.length ≤ 1048576) (he : e.length ≤ 1048576) :
    Calls Try.prog 26 #[v, u] w fun r w' => ∃ v', r = .returned (.tuple #[v', .int .i64 (withinR s d t e).1]) ∧ Arr w.heap.size w'.heap.size w' v' (withinR s d t e).2.1 (withinR s d t e).2.2 ∧ Below w.heap.size w w' := by
  have H : Hid (ArrI w v s d) := h
  have K : Hid (ArrI w u t e) := k
  obtain ⟨a, c, b, f, rfl, h1, h2, g1, g2⟩ := h
  obtain ⟨a', c', b', f', rfl, k1, k2, g3, g4⟩ := k
  have HOK : Hid (∀ (W : World) (o : Nat), Below w.heap.size w W → W.heap[o]? = some (.cells #[.slice a s.length c, .slice b d.length f, .slice a' t.length c', .slice b' e.length f'] 26 (0, 0)) → Calls Try.prog 46 #[.slice (some ⟨o, 0, none⟩) 2 2] W fun r w' => r = .returned (.bool (arrOk s d && arrOk t e)) ∧ Below W.heap.size W w') := fun W o hb ho => allOk2_impl (H.out.keep hb) (K.out.keep hb) hs hd ht he ho
  have H1 : Hid (IntsI w (.slice a s.length c) s) := ⟨a, c, rfl, g1, h1⟩
  have HS : Hid (s.length ≤ 1048576) := hs
  have HD : Hid (d.length ≤ 1048576) := hd
  by_cases ho : arrOk s d = true ∧ arrOk t e = true
  · have hoo : (arrOk s d && arrOk t e) = true := by rw [ho.1, ho.2]; rfl
    rw [hoo] at HOK
    rw [withinR_good ho]
    obtain ⟨D, hD⟩ : ∃ D, D = (List.range d.length).map (fun i => if placeIn e (d.getD i 0) < e.length then (1 : Int) else 0) := ⟨_, rfl⟩
    rw [← hD]
    have HF0 : Hid (∀ (W' : World) (o B E : Nat) (sa : Option Addr) (sc q bM : Nat), Below w.heap.size w W' → Box W' o (.slice a s.length c) (.slice b d.length f) 26 → Piece B E W' (.slice sa s.length sc) s → B ≤ E → E ≤ W'.heap.size → W'.cell? ⟨q, 0, none⟩ = some (.map (some bM)) → q < W'.heap.size → MapAt W' bM e.length (firstM e e.length) → Calls Try.prog 65 #[.slice sa s.length sc, .func (.func 69) #[] #[.pointer (some ⟨q, 0, none⟩)], .slice (some ⟨o, 0, none⟩) 1 1] W' fun r w' => ∃ v', r = .returned (.tuple #[v', .int .i64 0]) ∧ Arr B w'.heap.size w' v' s D ∧ Below W'.heap.size W' w') := by
      intro W' o B E sa sc q bM hb ho2 hp hBE hEW hq hqs hm
      have z1 := arrOk_size ho.1
      have l1 := arrOk_len ho.1
      have hC : placesC (fun i => (if (firstM e e.length (d.getD i 0)).isSome = true then (1 : Int) else 0, (0 : Int))) d.length = 0 := firstC_none (fun _ => rfl) _
      have qq := filled_impl (F := [s, d]) (V := fun i => (if (firstM e e.length (d.getD i 0)).isSome = true then (1 : Int) else 0, (0 : Int))) (n := d.length) (p := .pointer (some ⟨q, 0, none⟩)) (enters_of Try.func69 (by kernel_rfl) rfl) (arrs_one ho2 (H.out.keep hb)) (by decide) (by omega) (by
        intro j
        match j with
        | 0 => exact HS.out
        | 1 => exact HD.out
        | j + 2 => simp) (by
        intro i hi
        have k1 : s = [] → d.length = 1 := by rintro rfl; rw [sizeV_0'] at z1; omega
        match i, hi with
        | 0, _ => exact ⟨fun q => by have := k1 q; show 0 < d.length; omega, fun q => Nat.le_refl _⟩) (by
        intro W2 A k hk hb' hi
        rw [numsAt_one, numOf_at ho.1 hk] at hi
        have c1 : W2.cell? ⟨A, 0, none⟩ = some (.int .i64 (d.getD k 0)) := by
          obtain ⟨p1, p2, p3, _, p5⟩ := hi.at (k := 0) (by simp)
          cases p3
          simpa using p5
        exact within1_impl (hm.keep hb') ((hb'.cell (p := ⟨q, 0, none⟩) hqs).trans hq) (nums_wf ho.1 hk) c1) hp hBE hEW z1
      rw [hC, if_pos rfl] at qq
      have hDD : placesD (fun i => (if (firstM e e.length (d.getD i 0)).isSome = true then (1 : Int) else 0, (0 : Int))) d.length = D := by
        unfold placesD
        rw [if_pos hC, hD]
        apply List.map_congr_left
        intro i _
        dsimp only
        rw [firstM_some]
        simp
      rw [hDD] at qq
      exact qq
    have HPL : Hid (∀ W, Below w.heap.size w W → 0 < W.heap.size → Calls Try.prog 41 #[.slice b' e.length f'] W fun r w' => ∃ b g, r = .returned (.tuple #[.map (some b), .slice (some ⟨g, 0, none⟩) e.length e.length]) ∧ MapAt w' b e.length (firstM e e.length) ∧ W.heap.size ≤ b ∧ Below W.heap.size W w') := fun W hb hw => places_impl (k2.keep hb) ho.2 hw
    clear ho hoo hD h1 h2 k1 k2 g1 g2 g3 g4
    go_enter Try.func26, Try.ntmps26
    go_wp2_with fail
    refine (HOK.out _ _ (bAlloc (bAlloc (bAlloc (bAlloc (Below.refl _ _) _) _) _) _) (by exact (four5 w _ _ _ _).2.2.2)).mono ?_
    rintro r w1 ⟨rfl, hb⟩
    have q4 := four5 w (.cells #[.slice a s.length c, .slice b d.length f] 26) (.cells #[.slice a' t.length c', .slice b' e.length f'] 26) (.cells #[.slice none 0 0, .slice none 0 0] 26) (.cells #[.slice a s.length c, .slice b d.length f, .slice a' t.length c', .slice b' e.length f'] 26)
    have HB1 : Hid (Below w.heap.size w w1) := bTrans (bAlloc (bAlloc (bAlloc (bAlloc (Below.refl _ _) _) _) _) _) hb
    have X1 : Hid (Box w1 w.heap.size (.slice a s.length c) (.slice b d.length f) 26) := Box.keep q4.1 hb
    have Y1 : Hid (Box w1 (w.heap.size + 1) (.slice a' t.length c') (.slice b' e.length f') 26) := Box.keep q4.2.1 hb
    have R1 : Hid (Box w1 (w.heap.size + 1 + 1) (.slice none 0 0) (.slice none 0 0) 26) := Box.keep q4.2.2.1 hb
    have LT : Hid (w.heap.size + 1 + 1 < w1.heap.size) := R1.out.lt
    clear hb q4 HOK
    have x0 := X1.out.c0
    have z0 := Y1.out.c0
    have z1 := Y1.out.c1
    go_wp2_with fail
    refine (HPL.out _ HB1.out (by have := LT.out; omega)).mono ?_
    rintro r w2 ⟨bM, gA, rfl, hm, hbM, hb⟩
    have X3 : Hid (Box w2 w.heap.size (.slice a s.length c) (.slice b d.length f) 26) := X1.out.keep hb
    have R3 : Hid (Box w2 (w.heap.size + 1 + 1) (.slice none 0 0) (.slice none 0 0) 26) := R1.out.keep hb
    have HB3' : Hid (Below w.heap.size w w2) := bTrans HB1.out hb
    have HM2 : Hid (MapAt w2 bM e.length (firstM e e.length)) := hm
    clear hm hb x0 z0 z1 X1 Y1 R1 HPL hbM
    go_wp2_with fail
    generalize hW : w2.alloc (.cells #[.map (some bM)] 49) = W
    have hb : Below w2.heap.size w2 W := by rw [← hW]; exact bAlloc (Below.refl _ _) _
    have X2 : Hid (Box W w.heap.size (.slice a s.length c) (.slice b d.length f) 26) := X3.out.keep hb
    have R2 : Hid (Box W (w.heap.size + 1 + 1) (.slice none 0 0) (.slice none 0 0) 26) := R3.out.keep hb
    have HB2 : Hid (Below w.heap.size w W) := bTrans HB3'.out hb
    have LR : Hid (w.heap.size + 1 + 1 < W.heap.size) := R2.out.lt
    have LQ : Hid (w2.heap.size < W.heap.size) := by show _ < _; rw [← hW]; simp
    have CQ : Hid (W.cell? ⟨w2.heap.size, 0, none⟩ = some (.map (some bM))) := by show _ = _; rw [← hW]; exact cell_at (heap_alloc_new w2 _) rfl
    have HMW : Hid (MapAt W bM e.length (firstM e e.length)) := HM2.out.keep hb
    have HFL : Hid (∀ (W' : World) (o B E : Nat) (sa : Option Addr) (sc : Nat), Below W.heap.size W W' → Box W' o (.slice a s.length c) (.slice b d.length f) 26 → Piece B E W' (.slice sa s.length sc) s → B ≤ E → E ≤ W'.heap.size → Calls Try.prog 65 #[.slice sa s.length sc, .func (.func 69) #[] #[.pointer (some ⟨w2.heap.size, 0, none⟩)], .slice (some ⟨o, 0, none⟩) 1 1] W' fun r w' => ∃ v', r = .returned (.tuple #[v', .int .i64 0]) ∧ Arr B w'.heap.size w' v' s D ∧ Below W'.heap.size W' w') := by
      intro W' o B E sa sc hb' ho2 hp hBE hEW
      exact HF0.out W' o B E sa sc w2.heap.size bM (bTrans HB2.out hb') ho2 hp hBE hEW ((hb'.cell (p := ⟨w2.heap.size, 0, none⟩) LQ.out).trans CQ.out) (Nat.lt_of_lt_of_le LQ.out hb'.size) (HMW.out.keep hb')
    clear hb hW X3 R3 HB3' HM2 HF0 HMW CQ
    have x0 := X2.out.c0
    have x1 := X2.out.c1
    have u0 := (fun O : Obj => (show (World.drew (W.alloc O)).cell? ⟨w.heap.size, 0, none⟩ = some (.slice a s.length c) from (X2.out.keep (bAlloc (Below.refl _ _) O)).c0))
    have u1 := (fun O : Obj => (show (World.drew (W.alloc O)).cell? ⟨w.heap.size, 1, none⟩ = some (.slice b d.length f) from (X2.out.keep (bAlloc (Below.refl _ _) O)).c1))
    go_region_held3 (fun w' => w'.cell? ⟨w.heap.size, 0, none⟩ = some (.slice a s.length c) ∧ w'.cell? ⟨w.heap.size, 1, none⟩ = some (.slice b d.length f))
      (first | (refine ⟨?_, ?_⟩ <;> (first | with_reducible assumption | simp only [*])) | exact ⟨x0, x1⟩)
      (first
        | (go_at_call 66; refine (copied_new (H1.out.keep (bTrans HB2.out (by repeat first | exact (Below.refl _ _).drew | exact Below.refl _ _ | refine bAlloc ?_ _ | refine Below.drew ?_))) HS.out).mono ?_; rintro r w3 ⟨ax, cx, rfl, ha, hb⟩; have SB : Hid (_ ≤ w3.heap.size) := hb.size; have PX : Hid (Piece _ w3.heap.size w3 (.slice ax s.length cx) s) := ha; have HB3 : Hid (Below W.heap.size W w3) := bTrans (by repeat first | exact (Below.refl _ _).drew | exact Below.refl _ _ | refine bAlloc ?_ _ | refine Below.drew ?_) hb; (try have BQ : Hid (Box w3 W.heap.size (.slice a s.length c) (.slice b d.length f) 26) := Box.keep (w := World.drew (World.alloc W (.cells #[.slice a s.length c, .slice b d.length f] 26))) (box_new W _ _ _) hb); have y0 := (X2.out.keep HB3.out).c0; have y1 := (X2.out.keep HB3.out).c1; have z0 := (fun O : Obj => (X2.out.keep (bAlloc HB3.out O)).c0); have z1 := (fun O : Obj => (X2.out.keep (bAlloc HB3.out O)).c1); clear ha hb)
        | (go_at_call_of 65 (Value.slice (some ⟨w3.heap.size, 0, none⟩) 1 1); refine (HFL.out _ w3.heap.size _ w3.heap.size ax cx (bAlloc HB3.out _) (box_new w3 _ _ _) (PX.out.keep (bAlloc (Below.refl _ _) _)) SB.out (bAlloc (Below.refl w3.heap.size w3) _).size).mono ?_; rintro r w4 ⟨v4, rfl, ha, hb⟩; obtain ⟨a4, c4, b4, e4, rfl, _, _, _, _⟩ := ha.arrI; have HA4 : Hid (Arr W.heap.size w4.heap.size w4 (.agg #[.slice a4 s.length c4, .slice b4 D.length e4]) s D) := ha.mono (by simp; try omega) (Nat.le_refl _); have HB4 : Hid (Below W.heap.size W w4) := bTrans (bAlloc HB3.out _) hb; have v0 := (X2.out.keep HB4.out).c0; have v1 := (X2.out.keep HB4.out).c1; have R4 : Hid (Box w4 (w.heap.size + 1 + 1) (.slice none 0 0) (.slice none 0 0) 26) := R2.out.keep HB4.out; have r0 := R4.out.c0; have r1 := R4.out.c1; have f0 : w4.frozen? ⟨w.heap.size + 1 + 1, 0, none⟩ = false := free_at R4.out 0; have f1 : w4.frozen? ⟨w.heap.size + 1 + 1, 1, none⟩ = false := free_at R4.out 1; have zz : ∀ u v, Box ((w4.setCell ⟨w.heap.size + 1 + 1, 0, none⟩ u).setCell ⟨w.heap.size + 1 + 1, 1, none⟩ v) w.heap.size (.slice a s.length c) (.slice b d.length f) 26 := (fun u v => ((X2.out.keep HB4.out).win (win_setCell _ _ _ _) (.inl (by omega))).win (win_setCell _ _ _ _) (.inl (by omega))); have s0 := (fun u v => (zz u v).c0); have s1 := (fun u v => (zz u v).c1); have HR : Hid (((w4.setCell ⟨w.heap.size + 1 + 1, 0, none⟩ (.slice a4 s.length c4)).setCell ⟨w.heap.size + 1 + 1, 1, none⟩ (.slice b4 D.length e4)).heap[w.heap.size + 1 + 1]? = some (.cells #[.slice a4 s.length c4, .slice b4 D.length e4] 26 (0, 0))) := arr_stored R4.out; clear ha hb zz)
        | (go_at_call_of 65 (Value.slice (some ⟨W.heap.size, 0, none⟩) 1 1); refine (HFL.out _ W.heap.size _ w3.heap.size ax cx HB3.out BQ.out PX.out SB.out (Nat.le_refl _)).mono ?_; rintro r w4 ⟨v4, rfl, ha, hb⟩; obtain ⟨a4, c4, b4, e4, rfl, _, _, _, _⟩ := ha.arrI; have HA4 : Hid (Arr W.heap.size w4.heap.size w4 (.agg #[.slice a4 s.length c4, .slice b4 D.length e4]) s D) := ha.mono (by simp; try omega) (Nat.le_refl _); have HB4 : Hid (Below W.heap.size W w4) := bTrans HB3.out hb; have v0 := (X2.out.keep HB4.out).c0; have v1 := (X2.out.keep HB4.out).c1; have R4 : Hid (Box w4 (w.heap.size + 1 + 1) (.slice none 0 0) (.slice none 0 0) 26) := R2.out.keep HB4.out; have r0 := R4.out.c0; have r1 := R4.out.c1; have f0 : w4.frozen? ⟨w.heap.size + 1 + 1, 0, none⟩ = false := free_at R4.out 0; have f1 : w4.frozen? ⟨w.heap.size + 1 + 1, 1, none⟩ = false := free_at R4.out 1; have zz : ∀ u v, Box ((w4.setCell ⟨w.heap.size + 1 + 1, 0, none⟩ u).setCell ⟨w.heap.size + 1 + 1, 1, none⟩ v) w.heap.size (.slice a s.length c) (.slice b d.length f) 26 := (fun u v => ((X2.out.keep HB4.out).win (win_setCell _ _ _ _) (.inl (by omega))).win (win_setCell _ _ _ _) (.inl (by omega))); have s0 := (fun u v => (zz u v).c0); have s1 := (fun u v => (zz u v).c1); have HR : Hid (((w4.setCell ⟨w.heap.size + 1 + 1, 0, none⟩ (.slice a4 s.length c4)).setCell ⟨w.heap.size + 1 + 1, 1, none⟩ (.slice b4 D.length e4)).heap[w.heap.size + 1 + 1]? = some (.cells #[.slice a4 s.length c4, .slice b4 D.length e4] 26 (0, 0))) := arr_stored R4.out; clear ha hb zz))
    all_goals
      go_wp2
      refine bodyPost_ret (results_arr_tmp Try.results26 _ _ (w.heap.size + 1 + 1) _ _ rfl HR.out) rfl ?_
      refine ⟨_, rfl, ?_, below_setCell (below_setCell (bTrans HB2.out HB4.out) (by omega) _ _) (by omega) _ _⟩
      have L := LR.out
      exact ((HA4.out.setCell L _ _).setCell L _ _).mono (by omega) (by simp only [size_setCell]; omega)
  · have hoo : (arrOk s d && arrOk t e) = false := by
      cases h1 : arrOk s d <;> cases h2 : arrOk t e <;> simp_all
    rw [hoo] at HOK
    rw [withinR_bad ho]
    clear ho hoo
    go_enter Try.func26, Try.ntmps26
    go_wp2_with fail
    refine (HOK.out _ _ (bAlloc (bAlloc (bAlloc (bAlloc (Below.refl _ _) _) _) _) _) (by exact (four5 w _ _ _ _).2.2.2)).mono ?_
    rintro r w1 ⟨rfl, hb⟩
    have q4 := four5 w (.cells #[.slice a s.length c, .slice b d.length f] 26) (.cells #[.slice a' t.length c', .slice b' e.length f'] 26) (.cells #[.slice none 0 0, .slice none 0 0] 26) (.cells #[.slice a s.length c, .slice b d.length f, .slice a' t.length c', .slice b' e.length f'] 26)
    have HB1 : Hid (Below w.heap.size w w1) := bTrans (bAlloc (bAlloc (bAlloc (bAlloc (Below.refl _ _) _) _) _) _) hb
    have X1 : Hid (Box w1 w.heap.size (.slice a s.length c) (.slice b d.length f) 26) := Box.keep q4.1 hb
    have Y1 : Hid (Box w1 (w.heap.size + 1) (.slice a' t.length c') (.slice b' e.length f') 26) := Box.keep q4.2.1 hb
    have R1 : Hid (Box w1 (w.heap.size + 1 + 1) (.slice none 0 0) (.slice none 0 0) 26) := Box.keep q4.2.2.1 hb
    have LT : Hid (w.heap.size + 1 + 1 < w1.heap.size) := R1.out.lt
    clear hb q4 HOK
    have x0 := X1.out.c0
    have z0 := Y1.out.c0
    have y0 := R1.out.c0
    have y1 := R1.out.c1
    have f0 : w1.frozen? ⟨w.heap.size + 1 + 1, 0, none⟩ = false := free_at R1.out 0
    have f1 : w1.frozen? ⟨w.heap.size + 1 + 1, 1, none⟩ = false := free_at R1.out 1
    have HR : Hid (((w1.setCell ⟨w.heap.size + 1 + 1, 0, none⟩ (.slice none 0 0)).setCell ⟨w.heap.size + 1 + 1, 1, none⟩ (.slice none 0 0)).heap[w.heap.size + 1 + 1]? = some (.cells #[.slice none 0 0, .slice none 0 0] 26 (0, 0))) := arr_stored R1.out
    go_wp2
    refine bodyPost_ret (results_arr_tmp Try.results26 _ _ (w.heap.size + 1 + 1) _ _ rfl HR.out) rfl ?_
    exact ⟨_, rfl, arr_zero _ _ _, below_setCell (below_setCell HB1.out (by omega) _ _) (by omega) _ _⟩
end Go.Proofs.Ythjjjnapcbkhjaa
