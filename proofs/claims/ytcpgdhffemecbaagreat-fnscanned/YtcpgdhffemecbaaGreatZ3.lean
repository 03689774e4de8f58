/-
  Several walks, one behind the other: ScanF, ScanL, ImplMake10, ImplMake11.
-/
import Derived.Test.YtcpgdhffemecbaaGreatZ1
import Derived.Test.YtcpgdhffemecbaaGreatZ2
namespace Go.Proofs.YtcpgdhffemecbaaGreat
set_option linter.unusedVariables false
set_option linter.unusedSimpArgs false
/-- Where all goes well: what is scanned is an array with the reductions as its rows. -/
theorem scanned_facts {g n0 : Int} {t d : List Int} (h : scanC g (n0 :: t) d = 0) : (arrOk (n0 :: t) d = true ∧ sign2 g = true) ∧ scanR g (n0 :: t) d = (0, n0 :: t, scanD g (n0 :: t) d) ∧ arrOk (n0 :: t) (scanD g (n0 :: t) d) = true ∧ (∀ i, i < n0.toNat → (scanK g (n0 :: t) d i).1 = 0) ∧ rowsF (n0 :: t) (scanD g (n0 :: t) d) = flatR t ((List.range n0.toNat).map (fun i => (scanK g (n0 :: t) d i).2)) := by
  have ho : arrOk (n0 :: t) d = true ∧ sign2 g = true := by
    unfold scanC at h
    by_cases q : arrOk (n0 :: t) d = true ∧ sign2 g = true
    · exact q
    · rw [if_neg q] at h; cases h
  have er : rowsN (n0 :: t) = n0.toNat := by simp [rowsN]
  have hc : firstC (fun i => (scanK g (n0 :: t) d i).1) n0.toNat = 0 := by
    unfold scanC at h
    rw [if_pos ho, if_neg (by simp), er] at h
    exact h
  have hall := firstC_all hc
  have hR : scanR g (n0 :: t) d = (0, n0 :: t, scanD g (n0 :: t) d) := by unfold scanR; rw [h]; rfl
  have hD : scanD g (n0 :: t) d = (List.range n0.toNat).flatMap (fun i => (scanK g (n0 :: t) d i).2) := by unfold scanD; rw [if_neg (by simp), er]
  have hK : ∀ i, i < n0.toNat → arrOk t (scanK g (n0 :: t) d i).2 = true := fun i hi => by
    have q := redL_ok (g := g) (t := t) (R := (rowsD (n0 :: t) d).take (i + 1)) (by intro e; have q := congrArg List.length e; rw [List.length_take, rowsD_len, List.length_nil, er] at q; omega) (take_ok (rowsD_ok ho.1 (by simp)) _) (hall i hi)
    exact q
  have hh := head_bd ho.1
  simp only [List.getD_cons_zero] at hh
  have hoD : arrOk (n0 :: t) (scanD g (n0 :: t) d) = true ∧ rowsF (n0 :: t) (scanD g (n0 :: t) d) = flatR t ((List.range n0.toNat).map (fun i => (scanK g (n0 :: t) d i).2)) := by
    by_cases hp : 0 < n0
    · obtain ⟨p0, p1, p2⟩ := tail_size ho.1 hp
      obtain ⟨N, hN⟩ : ∃ N : Nat, sizeV t = N := ⟨(sizeV t).toNat, by omega⟩
      have hl : ∀ i, i < n0.toNat → (scanK g (n0 :: t) d i).2.length = N := fun i hi => by
        have q := arrOk_size (hK i hi)
        omega
      have hlen := (flat_atR (N := N) (g := fun i => (scanK g (n0 :: t) d i).2) 0 n0.toNat (by omega) hl).2
      have hz := arrOk_size ho.1
      have q1 : arrOk (n0 :: t) (scanD g (n0 :: t) d) = true := by
        simp only [arrOk, Bool.and_eq_true, decide_eq_true_eq, List.all_eq_true]
        refine ⟨?_, fun x hx => ?_⟩
        · rw [hD, hlen, hz, ← p1, hN, Int.natCast_mul, Int.toNat_of_nonneg (by omega)]
        · rw [hD] at hx
          obtain ⟨i, hi, hx2⟩ := List.mem_flatMap.1 hx
          have q := hK i (List.mem_range.1 hi)
          simp only [arrOk, Bool.and_eq_true, List.all_eq_true] at q
          exact q.2 x hx2
      refine ⟨q1, ?_⟩
      rw [rowsF_flat q1 (by simp)]
      show flatR t _ = _
      congr 1
      unfold rowsD
      rw [er]
      apply List.map_congr_left
      intro i hi
      have hi2 : i < n0.toNat := by simpa using hi
      have q4 := (flat_atR (N := N) (g := fun i => (scanK g (n0 :: t) d i).2) i n0.toNat hi2 hl).1
      rw [← hD] at q4
      refine Eq.trans ?_ q4
      have eN : rowN (n0 :: t) = N := by simp [rowN, hN]
      show ((scanD g (n0 :: t) d).drop (i * rowN (n0 :: t))).take (rowN (n0 :: t)) = _
      rw [eN]
    · obtain rfl : n0 = 0 := by omega
      have hd : d = [] := by
        have z := arrOk_size ho.1
        rw [(sizeV_ok (arrOk_shape ho.1)).2.2.2, prodV_cons, Int.zero_mul] at z
        exact List.eq_nil_of_length_eq_zero (by omega)
      have e0 : scanD g (0 :: t) d = [] := by rw [hD]; rfl
      have q1 : arrOk (0 :: t) (scanD g (0 :: t) d) = true := by rw [e0, ← hd]; exact ho.1
      refine ⟨q1, ?_⟩
      rw [rowsF_flat q1 (by simp)]
      rfl
  exact ⟨ho, hR, hoD.1, hall, hoD.2⟩
/-- No rows: what is scanned is itself. -/
theorem scanned_none {g : Int} {t d : List Int} (h : scanC g (0 :: t) d = 0) : scanD g (0 :: t) d = d := by
  obtain ⟨ho, _, h3, _⟩ := scanned_facts h
  have hd : ∀ l, arrOk (0 :: t) l = true → l = [] := fun l q => by
    have z := arrOk_size q
    rw [(sizeV_ok (arrOk_shape q)).2.2.2, prodV_cons, Int.zero_mul] at z
    exact List.eq_nil_of_length_eq_zero (by omega)
  rw [hd _ h3, hd _ ho.1]
theorem scanned_nil {g : Int} {d : List Int} (h : scanC g [] d = 0) : scanR g [] d = (0, [], d) := by
  have ho : arrOk [] d = true ∧ sign2 g = true := by
    unfold scanC at h
    by_cases q : arrOk [] d = true ∧ sign2 g = true
    · exact q
    · rw [if_neg q] at h; cases h
  exact scanR_nil ho
/-- The whole, and each beginning, reduced. -/
theorem scanned_last {g n0 : Int} {t d : List Int} (h : scanC g (n0 :: t) d = 0) (hp : 0 < n0) : reduceR g (n0 :: t) d = (0, t, (scanK g (n0 :: t) d (n0.toNat - 1)).2) := by
  obtain ⟨ho, _, _, hall, _⟩ := scanned_facts h
  have er : rowsN (n0 :: t) = n0.toNat := by simp [rowsN]
  have e : scanK g (n0 :: t) d (n0.toNat - 1) = redL g t (rowsD (n0 :: t) d) := by
    show redL g t ((rowsD (n0 :: t) d).take (n0.toNat - 1 + 1)) = _
    rw [List.take_of_length_le (by rw [rowsD_len, er]; omega)]
  have c := hall (n0.toNat - 1) (by omega)
  rw [e] at c
  rw [reduceR_some ⟨ho.2, ho.1⟩ hp, c, if_pos rfl, e]
theorem scanned_first {g n0 : Int} {t d : List Int} (hp : 0 < n0) : (scanK g (n0 :: t) d 0).2 = rowAt (n0 :: t) d 0 := by
  have er : rowsN (n0 :: t) = n0.toNat := by simp [rowsN]
  show (redL g t ((rowsD (n0 :: t) d).take (0 + 1))).2 = _
  have e : (rowsD (n0 :: t) d).take (0 + 1) = [rowAt (n0 :: t) d 0] := by
    have hl : 0 < (rowsD (n0 :: t) d).length := by rw [rowsD_len, er]; omega
    apply List.ext_getElem
    · simp; omega
    · intro i h1 h2
      obtain rfl : i = 0 := by simp at h2; omega
      simp [rowsD]
  rw [e, redL_one]
theorem scanned_part {g n0 : Int} {t d : List Int} (h : scanC g (n0 :: t) d = 0) {k : Nat} (hk : k < n0.toNat) : takeR [] [((k + 1 : Nat) : Int)] (n0 :: t) d = (0, ((k + 1 : Nat) : Int) :: t, chosenD (n0 :: t) d (fun j => 0 + (j : Int)) (k + 1)) ∧ reduceR g (((k + 1 : Nat) : Int) :: t) (chosenD (n0 :: t) d (fun j => 0 + (j : Int)) (k + 1)) = (0, t, (scanK g (n0 :: t) d k).2) := by
  obtain ⟨ho, _, _, hall, _⟩ := scanned_facts h
  obtain ⟨f1, f2, f3⟩ := beg_facts ho.1 hk
  have hh := head_bd ho.1
  simp only [List.getD_cons_zero] at hh
  have hm : manyV ((k + 1 : Nat) : Int) = ((k + 1 : Nat) : Int) := by unfold manyV; rw [if_pos (by omega)]
  have hs : takeS ((k + 1 : Nat) : Int) (n0 :: t) d = ((k + 1 : Nat) : Int) :: t := by unfold takeS; rw [hm]; simp [vecS]
  have hc : takeC [] [((k + 1 : Nat) : Int)] (n0 :: t) d = 0 := by
    have a1 : arrOk [] [((k + 1 : Nat) : Int)] = true := by simp [arrOk, sizeV_0', ok]; omega
    unfold takeC
    rw [if_pos ⟨a1, ho.1⟩, if_neg (by simp)]
    show (if 0 ≤ sizeV (takeS ((k + 1 : Nat) : Int) (n0 :: t) d) then (0 : Int) else 6) = 0
    rw [hs, if_pos f1]
  have hd : takeD ((k + 1 : Nat) : Int) (n0 :: t) d = chosenD (n0 :: t) d (fun j => 0 + (j : Int)) (k + 1) := by
    have q := take_chosen (x := ((k + 1 : Nat) : Int)) ho.1
    rw [hm] at q
    have e : rowsS (n0 :: t) = n0 :: t := by simp [rowsS]
    rw [e] at q
    rw [← q]
    simp only [Int.toNat_natCast]
    have e2 : ¬ ((k + 1 : Nat) : Int) < 0 := by omega
    simp only [if_neg e2]
  refine ⟨?_, ?_⟩
  · unfold takeR
    show mkR (takeC [] [((k + 1 : Nat) : Int)] (n0 :: t) d) (takeS ((k + 1 : Nat) : Int) (n0 :: t) d) (takeD ((k + 1 : Nat) : Int) (n0 :: t) d) = _
    rw [hc, hs, hd]; rfl
  · have c := hall k hk
    rw [reduceR_some ⟨ho.2, f2⟩ (by omega), f3]
    show ((scanK g (n0 :: t) d k).1, _, (scanK g (n0 :: t) d k).2) = _
    rw [show redL g t ((rowsD (n0 :: t) d).take (k + 1)) = scanK g (n0 :: t) d k from rfl, c, if_pos rfl]
end Go.Proofs.YtcpgdhffemecbaaGreat
namespace Go.Proofs.YtcpgdhffemecbaaGreat
set_option linter.unusedVariables false
theorem scan_len {g : Int} {s d : List Int} (h : scanC g s d = 0) (hd : d.length ≤ 1048576) : (scanD g s d).length ≤ 1048576 := by
  unfold scanC at h
  by_cases ho : arrOk s d = true ∧ sign2 g = true
  · unfold scanD
    by_cases hs : s = []
    · rw [if_pos hs]; exact hd
    · rw [if_neg hs]
      have q := flat_bound (rowsN s) 300 (fun i => (scanK g s d i).2) (scanK_len ho.1 hs)
      have := (rowsN_bd ho.1).1
      have : rowsN s * 300 ≤ 300 * 300 := Nat.mul_le_mul_right _ this
      omega
  · rw [if_neg ho] at h; cases h
end Go.Proofs.YtcpgdhffemecbaaGreat
namespace Go.Proofs.YtcpgdhffemecbaaGreat
open Go.RowKit
set_option linter.unusedVariables false
set_option linter.unusedSimpArgs false
set_option maxRecDepth 20000 in
set_option maxHeartbeats 2000000 in
theorem withRows3_impl {G : World → Prop} {t e : List Int} {w : World} {a b : Option Addr} {c f : Nat} (hG : ∀ W, G W → IntsI W (.slice a t.length c) t) :
    Calls Tryz.prog 38 #[.agg #[.slice a t.length c, .slice b e.length f]] w fun r w' => ∃ a2 c2, r = .returned (.agg #[.slice a2 (rowsS t).length c2, .slice b e.length f]) ∧ (∀ W : World, G W → (∀ o, w.heap.size ≤ o → o < w'.heap.size → W.heap[o]? = w'.heap[o]?) → w'.heap.size ≤ W.heap.size → IntsI W (.slice a2 (rowsS t).length c2) (rowsS t)) ∧ Below w.heap.size w w' := by
  by_cases h0 : t = []
  · have HS : Hid (rowsS t = [1]) := by show _ = _; unfold rowsS; rw [if_pos h0]
    subst h0
    rw [HS.out]
    simp only [List.length_nil, List.length_cons, Nat.zero_add]
    clear hG
    go_enter Tryz.func38, Tryz.ntmps38
    go_wp2
    refine bodyPost_ret (v := .agg #[.slice (some ⟨w.heap.size + 1 + 1, 0, none⟩) 1 1, .slice b e.length f]) (results_arr rfl _ _ (w.heap.size + 1) _ _ rfl ?_) rfl ?_
    · exact (box_new2 w _ _ _ _).keep (bAlloc (Below.refl _ _) _)
    · refine ⟨_, 1, rfl, fun W _ hW hs => ?_, bAlloc (bAlloc (bAlloc (Below.refl _ _) _) _) _⟩
      have q := (three5 w (.cells #[.slice a 0 c, .slice b e.length f] 26) (.cells #[.slice (some ⟨w.heap.size + 1 + 1, 0, none⟩) 1 1, .slice b e.length f] 26) (.cells #[.int .i64 1] 3)).2.2
      have k := hW (w.heap.size + 1 + 1) (by omega) (lt_of_heapA q)
      rw [q] at k
      refine ⟨_, 1, rfl, by simp, .inr ⟨w.heap.size + 1 + 1, 0, rfl, lt_of_heapA k, fun j hj => ?_⟩⟩
      have : j = 0 := by simp at hj; omega
      subst this
      exact cell_at k rfl
  · have HS : Hid (rowsS t = t) := by show _ = _; unfold rowsS; rw [if_neg h0]
    have hne : ((t.length : Int) == 0) = false := by simp; exact h0
    have HG : Hid (∀ W, G W → IntsI W (.slice a t.length c) t) := hG
    rw [HS.out]
    clear h0 HS hG
    generalize t.length = n at *
    go_enter Tryz.func38, Tryz.ntmps38
    go_wp2
    refine bodyPost_ret (v := .agg #[.slice a n c, .slice b e.length f]) (results_arr rfl _ _ (w.heap.size + 1) _ _ rfl ?_) rfl ?_
    · exact box_new2 w _ _ _ _
    · exact ⟨a, c, rfl, fun W h _ _ => HG.out W h, bAlloc (bAlloc (Below.refl _ _) _) _⟩
end Go.Proofs.YtcpgdhffemecbaaGreat
namespace Go.Proofs.YtcpgdhffemecbaaGreat
open Go.RowKit
set_option linter.unusedVariables false
set_option linter.unusedSimpArgs false
theorem takeC_zero {s d t e : List Int} (h : takeC s d t e = 0) : arrOk t e = true ∧ 0 ≤ sizeV (takeS (d.getD 0 0) t e) := by
  unfold takeC at h
  by_cases q : arrOk s d = true ∧ arrOk t e = true
  · rw [if_pos q] at h
    by_cases l : d.length ≠ 1
    · rw [if_pos l] at h; cases h
    · rw [if_neg l] at h
      by_cases z : 0 ≤ sizeV (takeS (d.getD 0 0) t e)
      · exact ⟨q.2, z⟩
      · rw [if_neg z] at h; cases h
  · rw [if_neg q] at h; cases h
theorem takeS_len5 {s d t e : List Int} (h : takeC s d t e = 0) : (takeS (d.getD 0 0) t e).length ≤ 1048576 := by
  have := (sizeV_ok (takeC_zero h).2).1
  omega
theorem takeD_len5 {s d t e : List Int} (h : takeC s d t e = 0) : (takeD (d.getD 0 0) t e).length ≤ 1048576 := by
  obtain ⟨h2, hz⟩ := takeC_zero h
  obtain ⟨r1, r2, r3⟩ := rowsS_ok h2
  rw [← take_chosen h2, chosenD_length r1 r2]
  unfold takeS at hz
  rw [r3] at hz
  have hm : manyV (d.getD 0 0) = ((manyV (d.getD 0 0)).toNat : Int) := by unfold manyV; split <;> omega
  rw [hm] at hz
  generalize (manyV (d.getD 0 0)).toNat = n at *
  by_cases h0 : n = 0
  · rw [h0, Nat.zero_mul]; omega
  · obtain ⟨p0, p1, p2⟩ := tail5 hz (by omega)
    have p3 := sizeV_bd ((n : Int) :: (rowsS t).drop 1)
    have q : ((n * rowN (rowsS t) : Nat) : Int) = sizeV ((n : Int) :: (rowsS t).drop 1) := by
      rw [Int.natCast_mul, ← p1]
      unfold rowN
      rw [Int.toNat_of_nonneg p0]
    omega
set_option maxRecDepth 20000 in
set_option maxHeartbeats 4000000 in
/-- Take. -/
theorem take_impl {s d t e : List Int} {w : World} {v u : Value} (h : ArrI w v s d) (k : ArrI w u t e) (hs : s.length ≤ 1048576) (hd : d.length ≤ 1048576) (ht : t.length ≤ 1048576) (he : e.length ≤ 1048576) :
    Calls Tryz.prog 14 #[v, u] w fun r w' => ∃ v', r = .returned (.tuple #[v', .int .i64 (takeR s d t e).1]) ∧ Arr w.heap.size w'.heap.size w' v' (takeR s d t e).2.1 (takeR s d t e).2.2 ∧ Below w.heap.size w w' := by
  have H : Hid (ArrI w v s d) := h
  have K : Hid (ArrI w u t e) := k
  obtain ⟨a, c, b, f, rfl, h1, h2, g1, g2⟩ := h
  obtain ⟨a', c', b', f', rfl, k1, k2, g3, g4⟩ := k
  have HSN : Hid (∀ (W : World) (o : Nat), Below w.heap.size w W → Box W o (.slice a' t.length c') (.slice b' e.length f') 26 → Calls Tryz.prog 37 #[.agg #[.slice a s.length c, .slice b d.length f], .slice (some ⟨o, 0, none⟩) 1 1] W fun r w' => r = .returned (.tuple #[.int .i64 (soleV s d (arrOk t e)), .int .i64 (oneC s d t e)]) ∧ Below W.heap.size W w') := fun W o hb ho => sole2_impl (H.out.keep hb) (K.out.keep hb) hd ht he ho
  have HWR : Hid (∀ W, Calls Tryz.prog 38 #[.agg #[.slice a' t.length c', .slice b' e.length f']] W fun r w' => ∃ a2 c2, r = .returned (.agg #[.slice a2 (rowsS t).length c2, .slice b' e.length f']) ∧ (∀ W' : World, Below w.heap.size w W' → (∀ o, W.heap.size ≤ o → o < w'.heap.size → W'.heap[o]? = w'.heap[o]?) → w'.heap.size ≤ W'.heap.size → IntsI W' (.slice a2 (rowsS t).length c2) (rowsS t)) ∧ Below W.heap.size W w') := fun W => withRows3_impl (fun W' hb => IntsI.keep ⟨a', c', rfl, g3, k1⟩ hb)
  have HI2 : Hid (Ints w b' e ∧ e.length ≤ f') := ⟨k2, g4⟩
  have EQ : oneC s d t e = 0 → arrOk s d = true ∧ arrOk t e = true ∧ d.length = 1 := fun h => by
    unfold oneC at h
    by_cases q : arrOk s d = true ∧ arrOk t e = true
    · rw [if_pos q] at h
      by_cases l : d.length ≠ 1
      · rw [if_pos l] at h; cases h
      · exact ⟨q.1, q.2, by simpa using l⟩
    · rw [if_neg q] at h; cases h
  have EV : oneC s d t e = 0 → soleV s d (arrOk t e) = d.getD 0 0 := fun h => by
    unfold soleV
    exact if_pos h
  have HXB : Hid (oneC s d t e = 0 → (-1000000000000 ≤ soleV s d (arrOk t e) ∧ soleV s d (arrOk t e) ≤ 1000000000000) ∧ 0 ≤ (rowsS t).getD 0 0 ∧ (rowsS t).getD 0 0 ≤ 300 ∧ 0 < (rowsS t).length) := fun h => by
    obtain ⟨q1, q2, q3⟩ := EQ h
    obtain ⟨r1, r2, r3⟩ := rowsS_ok q2
    obtain ⟨e1, e2⟩ := rowsN5 r1
    have hx : ok (d.getD 0 0) = true := by
      unfold arrOk at q1
      rw [Bool.and_eq_true, List.all_eq_true] at q1
      exact q1.2 _ (by simp [q3])
    rw [EV h]
    exact ⟨ok_bd hx, by omega, by omega, List.length_pos_iff.2 r2⟩
  obtain ⟨TS, hTS⟩ : ∃ TS, TS = manyV (soleV s d (arrOk t e)) :: (rowsS t).drop 1 := ⟨_, rfl⟩
  obtain ⟨TD, hTD⟩ : ∃ TD, TD = takeD (soleV s d (arrOk t e)) t e := ⟨_, rfl⟩
  have HOR : Hid (oneC s d t e = 0 → ∀ W a2 c2, IntsI W (.slice a2 (rowsS t).length c2) (rowsS t) → Calls Tryz.prog 40 #[.slice a2 (rowsS t).length c2, .int .i64 (manyV (soleV s d (arrOk t e)))] W fun r w' => ∃ a' c', r = .returned (.slice a' TS.length c') ∧ Piece W.heap.size w'.heap.size w' (.slice a' TS.length c') TS ∧ Below W.heap.size W w') := fun hc W a2 c2 hi => by
    obtain ⟨r1, r2, r3⟩ := rowsS_ok (EQ hc).2.1
    rw [hTS]
    exact ofRows_impl _ hi (by have := (sizeV_ok (arrOk_shape r1)).1; omega) r2
  have HSO : Hid (∀ W a2 c2, Ints W a2 TS → Calls Tryz.prog 39 #[.slice a2 TS.length c2] W fun r w' => r = .returned (.bool (decide (0 ≤ sizeV TS))) ∧ Below W.heap.size W w') := fun W a2 c2 hi => ok_impl c2 hi
  have HFR : Hid (oneC s d t e = 0 → 0 ≤ sizeV TS → ∀ W a2 c2, ArrI W (.agg #[.slice a2 (rowsS t).length c2, .slice b' e.length f']) (rowsS t) e → Calls Tryz.prog 41 #[.agg #[.slice a2 (rowsS t).length c2, .slice b' e.length f'], .int .i64 (if soleV s d (arrOk t e) < 0 then (rowsS t).getD 0 0 + soleV s d (arrOk t e) else 0), .int .i64 (manyV (soleV s d (arrOk t e)))] W fun r w' => ∃ v', r = .returned v' ∧ Arr W.heap.size w'.heap.size w' v' TS TD ∧ Below W.heap.size W w') := fun hc hz W a2 c2 hi => by
    obtain ⟨⟨x1, x2⟩, n1, n2, _⟩ := HXB.out hc
    obtain ⟨r1, r2, r3⟩ := rowsS_ok (EQ hc).2.1
    have hm : manyV (soleV s d (arrOk t e)) = ((manyV (soleV s d (arrOk t e))).toNat : Int) := by unfold manyV; split <;> omega
    have hb1 : -2000000000000 ≤ (if soleV s d (arrOk t e) < 0 then (rowsS t).getD 0 0 + soleV s d (arrOk t e) else 0) ∧ (if soleV s d (arrOk t e) < 0 then (rowsS t).getD 0 0 + soleV s d (arrOk t e) else 0) ≤ 2000000000000 := by split <;> omega
    have q := from_impl (n := (manyV (soleV s d (arrOk t e))).toNat) hm hi r1 r2 (by rw [← hm, ← hTS]; exact hz) hb1.1 hb1.2
    rw [take_chosen (EQ hc).2.1, ← hm, ← hTS, ← hTD] at q
    exact q
  obtain ⟨x, hx⟩ : ∃ x, x = (takeR s d t e).1 := ⟨_, rfl⟩
  obtain ⟨S, hS⟩ : ∃ S, S = (takeR s d t e).2.1 := ⟨_, rfl⟩
  obtain ⟨D, hD⟩ : ∃ D, D = (takeR s d t e).2.2 := ⟨_, rfl⟩
  rw [← hx, ← hS, ← hD]
  have TS0 : oneC s d t e = 0 → takeS (d.getD 0 0) t e = TS := fun h => by
    rw [hTS, EV h]; unfold takeS; rw [(rowsS_ok (EQ h).2.1).2.2]
  have E1 : Hid (oneC s d t e ≠ 0 → x = oneC s d t e ∧ S = [] ∧ D = []) := fun h => by
    have q : takeC s d t e = oneC s d t e := by
      unfold oneC at *
      unfold takeC
      by_cases q : arrOk s d = true ∧ arrOk t e = true
      · rw [if_pos q, if_pos q]
        by_cases l : d.length ≠ 1
        · rw [if_pos l, if_pos l]
        · rw [if_pos q, if_neg l] at h; exact absurd rfl h
      · rw [if_neg q, if_neg q]
    rw [hx, hS, hD]; unfold takeR; rw [q, mkR_bad h]; exact ⟨rfl, rfl, rfl⟩
  have TC : oneC s d t e = 0 → takeC s d t e = if 0 ≤ sizeV TS then 0 else 6 := fun h => by
    obtain ⟨q1, q2, q3⟩ := EQ h
    unfold takeC
    rw [if_pos ⟨q1, q2⟩, if_neg (by simpa using q3), TS0 h]
  have E2 : Hid (oneC s d t e = 0 → sizeV TS < 0 → x = 6 ∧ S = [] ∧ D = []) := fun h h1 => by
    rw [hx, hS, hD]; unfold takeR; rw [TC h, if_neg (by omega), mkR_bad (by decide)]; exact ⟨rfl, rfl, rfl⟩
  have E3 : Hid (oneC s d t e = 0 → 0 ≤ sizeV TS → x = 0 ∧ S = TS ∧ D = TD) := fun h h1 => by
    rw [hx, hS, hD]; unfold takeR; rw [TC h, if_pos h1, mkR_good, TS0 h, hTD, EV h]; exact ⟨rfl, rfl, rfl⟩
  have HMN : Hid (manyV (soleV s d (arrOk t e)) = if soleV s d (arrOk t e) < 0 then - soleV s d (arrOk t e) else soleV s d (arrOk t e)) := by show _ = _; unfold manyV; split <;> split <;> omega
  have HN0 : Hid (∀ W a2 c2, IntsI W (.slice a2 (rowsS t).length c2) (rowsS t) → 0 < (rowsS t).length → ∃ ab ao, a2 = some ⟨ab, ao, none⟩ ∧ W.cell? ⟨ab, ao, none⟩ = some (.int .i64 ((rowsS t).getD 0 0))) := fun W a2 c2 hi hp => by
    obtain ⟨qa, qc, qe, _, qi⟩ := hi
    cases qe
    obtain ⟨ab, ao, rfl, _, q⟩ := qi.at hp
    exact ⟨ab, ao, rfl, q⟩
  clear hx hS hD hs hd ht he h1 h2 k1 k2 g1 g2 g3 g4 EQ EV TC TS0 hTS hTD
  generalize manyV (soleV s d (arrOk t e)) = cnt at *
  generalize soleV s d (arrOk t e) = xv at *
  generalize oneC s d t e = y at *
  generalize rowsS t = RS at *
  generalize RS.getD 0 0 = N at *
  go_enter Tryz.func14, Tryz.ntmps14
  go_wp2_with fail
  refine (HSN.out _ _ (bAlloc (bAlloc (bAlloc (bAlloc (Below.refl _ _) _) _) _) _) (by exact (four5 w _ _ _ _).2.2.2)).mono ?_
  rintro r w1 ⟨rfl, hb⟩
  have q4 := four5 w (.cells #[.slice a s.length c, .slice b d.length f] 26) (.cells #[.slice a' t.length c', .slice b' e.length f'] 26) (.cells #[.slice none 0 0, .slice none 0 0] 26) (.cells #[.slice a' t.length c', .slice b' e.length f'] 26)
  have HB1 : Hid (Below w.heap.size w w1) := bTrans (bAlloc (bAlloc (bAlloc (bAlloc (Below.refl _ _) _) _) _) _) hb
  have X1 : Hid (Box w1 w.heap.size (.slice a s.length c) (.slice b d.length f) 26) := Box.keep q4.1 hb
  have Y1 : Hid (Box w1 (w.heap.size + 1) (.slice a' t.length c') (.slice b' e.length f') 26) := Box.keep q4.2.1 hb
  have R1 : Hid (Box w1 (w.heap.size + 1 + 1) (.slice none 0 0) (.slice none 0 0) 26) := Box.keep q4.2.2.1 hb
  clear hb q4
  clear HSN
  by_cases hy : y = 0
  · subst hy
    obtain ⟨⟨hx1, hx2⟩, hN1, hN2, hRL⟩ := HXB.out (by trivial)
    have LT : Hid (w.heap.size + 1 + 1 < w1.heap.size) := R1.out.lt
    by_cases hx0 : xv < 0
    all_goals
      have x0 := Y1.out.c0
      have x1 := Y1.out.c1
      go_wp2_with fail
      refine (HWR.out _).mono ?_
      rintro r w2 ⟨a2, c2, rfl, hin, hb⟩
      have Y2 : Hid (Box w2 (w.heap.size + 1) (.slice a' t.length c') (.slice b' e.length f') 26) := Y1.out.keep hb
      have R2 : Hid (Box w2 (w.heap.size + 1 + 1) (.slice none 0 0) (.slice none 0 0) 26) := R1.out.keep hb
      have HB2 : Hid (Below w.heap.size w w2) := bTrans HB1.out hb
      have L12 : Hid (w1.heap.size ≤ w2.heap.size) := hb.size
      have y0 := Y2.out.c0
      have y1 := Y2.out.c1
      have f0 : w2.frozen? ⟨w.heap.size + 1, 0, none⟩ = false := free_at Y2.out 0
      have f1 : w2.frozen? ⟨w.heap.size + 1, 1, none⟩ = false := free_at Y2.out 1
      clear hb x0 x1
      have Y3 : Hid (Box ((w2.setCell ⟨w.heap.size + 1, 0, none⟩ (.slice a2 RS.length c2)).setCell ⟨w.heap.size + 1, 1, none⟩ (.slice b' e.length f')) (w.heap.size + 1) (.slice a2 RS.length c2) (.slice b' e.length f') 26) := arr_stored Y2.out
      have R3 : Hid (Box ((w2.setCell ⟨w.heap.size + 1, 0, none⟩ (.slice a2 RS.length c2)).setCell ⟨w.heap.size + 1, 1, none⟩ (.slice b' e.length f')) (w.heap.size + 1 + 1) (.slice none 0 0) (.slice none 0 0) 26) := (R2.out.win (win_setCell _ _ _ _) (.inr (Nat.le_refl _))).win (win_setCell _ _ _ _) (.inr (Nat.le_refl _))
      have HB3 : Hid (Below w.heap.size w ((w2.setCell ⟨w.heap.size + 1, 0, none⟩ (.slice a2 RS.length c2)).setCell ⟨w.heap.size + 1, 1, none⟩ (.slice b' e.length f'))) := below_setCell (below_setCell HB2.out (by omega) _ _) (by omega) _ _
      have L23 : Hid (((w2.setCell ⟨w.heap.size + 1, 0, none⟩ (.slice a2 RS.length c2)).setCell ⟨w.heap.size + 1, 1, none⟩ (.slice b' e.length f')).heap.size = w2.heap.size) := by show _ = _; simp only [size_setCell]
      have HW3 : Hid (∀ o, w1.heap.size ≤ o → o < w2.heap.size → ((w2.setCell ⟨w.heap.size + 1, 0, none⟩ (.slice a2 RS.length c2)).setCell ⟨w.heap.size + 1, 1, none⟩ (.slice b' e.length f')).heap[o]? = w2.heap[o]?) := fun o h1 h2 => by
        have := LT.out
        rw [heap_setCell_other _ _ _ _ (by show o ≠ w.heap.size + 1; omega), heap_setCell_other _ _ _ _ (by show o ≠ w.heap.size + 1; omega)]
      have HIN : Hid (∀ W' : World, Below w.heap.size w W' → (∀ o, w1.heap.size ≤ o → o < w2.heap.size → W'.heap[o]? = w2.heap[o]?) → w2.heap.size ≤ W'.heap.size → IntsI W' (.slice a2 RS.length c2) RS) := hin
      clear hin
      have x0 := Y3.out.c0
      have x1 := Y3.out.c1
      go_wp2_with fail
      generalize ((w2.setCell ⟨w.heap.size + 1, 0, none⟩ (.slice a2 RS.length c2)).setCell ⟨w.heap.size + 1, 1, none⟩ (.slice b' e.length f')) = w3 at *
      have HAI : Hid (∀ W, Below w3.heap.size w3 W → IntsI W (.slice a2 RS.length c2) RS ∧ ArrI W (.agg #[.slice a2 RS.length c2, .slice b' e.length f']) RS e) := fun W hb => by
        have hbw : Below w.heap.size w W := bTrans HB3.out hb
        have q := HIN.out W hbw (fun o h1 h2 => by rw [hb.block o (by rw [L23.out]; exact h2), HW3.out o h1 h2]) (by have := hb.size; rw [L23.out] at this; exact this)
        refine ⟨q, ?_⟩
        obtain ⟨qa, qc, qe, qg, qi⟩ := q
        cases qe
        exact ⟨_, _, _, _, rfl, qi, HI2.out.1.keep hbw, qg, HI2.out.2⟩
      clear y0 y1 f0 f1 Y2 R2 HIN HW3 HWR
      obtain ⟨ab, ao, rfl, hcn⟩ := HN0.out w3 a2 c2 (HAI.out w3 (Below.refl _ _)).1 hRL
      have HFR' := HFR.out (by trivial)
      have HOR' := HOR.out (by trivial)
      have E2' := E2.out (by trivial)
      have E3' := E3.out (by trivial)
      clear HFR HOR E1 E2 E3
      have hcnt := HMN.out
      first | rw [if_pos (show xv < 0 by omega)] at hcnt HFR' | rw [if_neg (show ¬ xv < 0 by omega)] at hcnt HFR'
      have HFR2 : Hid _ := HFR'
      have HOR2 : Hid _ := HOR'
      have E22 : Hid _ := E2'
      have E33 : Hid _ := E3'
      clear HFR' HOR' E2' E3'
      subst hcnt
      try go_region
      go_wp2_with fail
      refine (HOR2.out _ _ _ (HAI.out _ (by first | exact Below.refl _ _ | exact (Below.refl _ _).drew)).1).mono ?_
      rintro r w4 ⟨a4, c4, rfl, hp, hb⟩
      have HB4 : Hid (Below w3.heap.size w3 w4) := by first | exact hb | exact bTrans ((Below.refl _ _).drew) hb
      have I4 : Hid (Ints w4 a4 TS) := by
        obtain ⟨q1, q2, q3, q4⟩ := hp.ints
        cases q3
        exact q4
      clear hp hb x0 x1 hcn
      go_wp2_with fail
      refine (HSO.out _ _ _ I4.out).mono ?_
      rintro r w5 ⟨rfl, hb⟩
      have HB5 : Hid (Below w3.heap.size w3 w5) := bTrans HB4.out hb
      have HB6 : Hid (Below w.heap.size w w5) := bTrans HB3.out HB5.out
      have Y5 : Hid (Box w5 (w.heap.size + 1) (.slice (some ⟨ab, ao, none⟩) RS.length c2) (.slice b' e.length f') 26) := Y3.out.keep HB5.out
      have R5 : Hid (Box w5 (w.heap.size + 1 + 1) (.slice none 0 0) (.slice none 0 0) 26) := R3.out.keep HB5.out
      clear hb
      by_cases hz : 0 ≤ sizeV TS
      · obtain ⟨rfl, eS, eD⟩ := E33.out hz
        have ES : Hid (S = TS ∧ D = TD) := ⟨eS, eD⟩
        have HFR3 : Hid _ := HFR2.out hz
        have hdz : decide (0 ≤ sizeV TS) = true := by simpa using hz
        clear E22 E33 eS eD hz HFR2
        rw [hdz]
        have x0 := Y5.out.c0
        have x1 := Y5.out.c1
        go_wp2_with fail
        refine (HFR3.out _ _ _ (HAI.out _ HB5.out).2).mono ?_
        rintro r w6 ⟨v', rfl, ha, hb⟩
        obtain ⟨a6, c6, b6, e6, rfl, _, _, _, _⟩ := ha.arrI
        have HA : Hid (Arr w5.heap.size w6.heap.size w6 (.agg #[.slice a6 TS.length c6, .slice b6 TD.length e6]) TS TD) := ha
        have HB7 : Hid (Below w.heap.size w w6) := bTrans HB6.out hb
        have R6 : Hid (Box w6 (w.heap.size + 1 + 1) (.slice none 0 0) (.slice none 0 0) 26) := R5.out.keep hb
        clear LT
        have LT : Hid (w.heap.size + 1 + 1 < w5.heap.size) := R5.out.lt
        clear ha hb x0 x1 hdz
        have y0 := R6.out.c0
        have y1 := R6.out.c1
        have f0 : w6.frozen? ⟨w.heap.size + 1 + 1, 0, none⟩ = false := free_at R6.out 0
        have f1 : w6.frozen? ⟨w.heap.size + 1 + 1, 1, none⟩ = false := free_at R6.out 1
        have HR : Hid (((w6.setCell ⟨w.heap.size + 1 + 1, 0, none⟩ (.slice a6 TS.length c6)).setCell ⟨w.heap.size + 1 + 1, 1, none⟩ (.slice b6 TD.length e6)).heap[w.heap.size + 1 + 1]? = some (.cells #[.slice a6 TS.length c6, .slice b6 TD.length e6] 26 (0, 0))) := arr_stored R6.out
        go_wp2
        refine bodyPost_ret (results_arr_tmp Tryz.results14 _ _ (w.heap.size + 1 + 1) _ _ rfl HR.out) rfl ?_
        refine ⟨_, rfl, ?_, below_setCell (below_setCell HB7.out (by omega) _ _) (by omega) _ _⟩
        have L := LT.out
        rw [ES.out.1, ES.out.2]
        exact ((HA.out.setCell L _ _).setCell L _ _).mono (by omega) (by simp [size_setCell])
      · obtain ⟨rfl, rfl, rfl⟩ := E22.out (by omega)
        have hdz : decide (0 ≤ sizeV TS) = false := by simpa using hz
        clear E22 E33 hz HFR2
        rw [hdz]
        have y0 := R5.out.c0
        have y1 := R5.out.c1
        have f0 : w5.frozen? ⟨w.heap.size + 1 + 1, 0, none⟩ = false := free_at R5.out 0
        have f1 : w5.frozen? ⟨w.heap.size + 1 + 1, 1, none⟩ = false := free_at R5.out 1
        have HR : Hid (((w5.setCell ⟨w.heap.size + 1 + 1, 0, none⟩ (.slice none 0 0)).setCell ⟨w.heap.size + 1 + 1, 1, none⟩ (.slice none 0 0)).heap[w.heap.size + 1 + 1]? = some (.cells #[.slice none 0 0, .slice none 0 0] 26 (0, 0))) := arr_stored R5.out
        go_wp2
        refine bodyPost_ret (results_arr_tmp Tryz.results14 _ _ (w.heap.size + 1 + 1) _ _ rfl HR.out) rfl ?_
        exact ⟨_, rfl, arr_zero _ _ _, below_setCell (below_setCell HB6.out (by omega) _ _) (by omega) _ _⟩
  · obtain ⟨rfl, rfl, rfl⟩ := E1.out hy
    have hne : (x != 0) = true := by simpa using hy
    clear E1 E2 E3 hy
    have y0 := R1.out.c0
    have y1 := R1.out.c1
    have f0 : w1.frozen? ⟨w.heap.size + 1 + 1, 0, none⟩ = false := free_at R1.out 0
    have f1 : w1.frozen? ⟨w.heap.size + 1 + 1, 1, none⟩ = false := free_at R1.out 1
    have HR : Hid (((w1.setCell ⟨w.heap.size + 1 + 1, 0, none⟩ (.slice none 0 0)).setCell ⟨w.heap.size + 1 + 1, 1, none⟩ (.slice none 0 0)).heap[w.heap.size + 1 + 1]? = some (.cells #[.slice none 0 0, .slice none 0 0] 26 (0, 0))) := arr_stored R1.out
    go_wp2
    refine bodyPost_ret (results_arr_tmp Tryz.results14 _ _ (w.heap.size + 1 + 1) _ _ rfl HR.out) rfl ?_
    exact ⟨_, rfl, arr_zero _ _ _, below_setCell (below_setCell HB1.out (by omega) _ _) (by omega) _ _⟩
end Go.Proofs.YtcpgdhffemecbaaGreat
