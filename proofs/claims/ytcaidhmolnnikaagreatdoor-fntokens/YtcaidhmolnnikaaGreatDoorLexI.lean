/-
  Walks: the program's isDigit, leadingDigits, firstNumber, firstToken, over strings.HasPrefix's, strings.CutPrefix's and strconv.Atoi's contracts.
-/
import Derived.Test.YtcaidhmolnnikaaGreatDoorLexN
namespace Go.Proofs.YtcaidhmolnnikaaGreatDoor
open Go.RowKit
set_option linter.unusedVariables false
set_option linter.unusedSimpArgs false
set_option maxRecDepth 20000 in
set_option maxHeartbeats 1000000 in
theorem isDigit_impl (r : Int) (w : World) : Calls Tryz.prog 54 #[.int .i32 r] w fun e w' => e = .returned (.bool (decide (48 ≤ r) && decide (r ≤ 57))) ∧ w' = w := by
  by_cases h1 : 48 ≤ r
  · by_cases h2 : r ≤ 57
    · have e : (decide (48 ≤ r) && decide (r ≤ 57)) = true := by simp [h1, h2]
      rw [e]
      go_enter Tryz.func54, Tryz.ntmps54
      go_wp2
      go_ret
      exact ⟨by first | rfl | simp [h1, h2], rfl⟩
    · have e : (decide (48 ≤ r) && decide (r ≤ 57)) = false := by simp; omega
      rw [e]
      go_enter Tryz.func54, Tryz.ntmps54
      go_wp2
      go_ret
      exact ⟨by first | rfl | (simp; omega), rfl⟩
  · have e : (decide (48 ≤ r) && decide (r ≤ 57)) = false := by rw [Bool.and_eq_false_iff]; left; simp; omega
    rw [e]
    go_enter Tryz.func54, Tryz.ntmps54
    go_wp2
    go_ret
    exact ⟨by first | rfl | (simp; omega), rfl⟩
set_option maxRecDepth 20000 in
set_option maxHeartbeats 4000000 in
/-- leadingDigits. -/
theorem leading_impl (t : ByteArray) (ht : t.size ≤ 300) (w : World) :
    Calls Tryz.prog 66 #[.string t] w fun e w' => e = .returned (.string (t.extract 0 (nd t 0))) ∧ Below w.heap.size w w' := by
  go_enter Tryz.func66, Tryz.ntmps66
  go_wp2
  go_loopw [] (fun wr => ∃ k : Nat, k ≤ t.size ∧ wr.heap[w.heap.size]? = some (.stringIter t k) ∧ (∀ j, j < k → digD t (0 + j) = true) ∧ Below w.heap.size w wr) (fun wr => t.size - wr.iterPos w.heap.size)
  case atStart =>
    refine ⟨0, by omega, ?_, fun j hj => absurd hj (by omega), (Below.refl _ _).alloc (Nat.le_refl _) _⟩
    have := World.iter_heap w t 0
    simpa using this
  case round =>
    obtain ⟨k, hk, hit, hn, hb⟩ := hrel
    have HN : Hid (∀ j, j < k → digD t (0 + j) = true) := hn
    have HB : Hid (Below w.heap.size w wr) := hb
    have HI : Hid (wr.heap[w.heap.size]? = some (.stringIter t k)) := hit
    clear hn hb
    by_cases hlt : k < t.size
    · have hbe := bt_at t hlt
      cases hd : digD t (0 + k)
      · have ND : Hid (nd t 0 = k) := nd_eq HN.out hd (by omega)
        have hno : ¬ (48 ≤ bt t k ∧ bt t k ≤ 57) := by
          intro h
          unfold digD at hd
          rw [Nat.zero_add, decide_eq_true hlt, decide_eq_true h.1, decide_eq_true h.2] at hd
          cases hd
        obtain ⟨r, q, hr, hnx⟩ : ∃ (r : Int) (q : Nat), ¬ (48 ≤ r ∧ r ≤ 57) ∧ ∀ ty, (Instr.next (.pointer (some ⟨w.heap.size, 0, none⟩)) true ty).run Tryz.prog wr = .ok (.tuple #[.bool true, .int .i64 (k : Int), .int .i32 r]) (wr.iterAt w.heap.size t q) := by
          by_cases h8 : (t[k]'hlt).toNat < 128
          · exact ⟨_, _, by rw [hbe] at hno; exact hno, fun ty => Lib.run_next_ascii_at wr w.heap.size t k ty hit hlt h8⟩
          · have := dec_high t k hlt (by omega)
            exact ⟨_, _, by omega, fun ty => Lib.run_next_any_at wr w.heap.size t k ty hit hlt⟩
        have HB2 : Hid (Below w.heap.size w (wr.iterAt w.heap.size t q)) := Lib.below_iterAt HB.out (Nat.le_refl _) t q
        have DQ : Hid (∀ W, Calls Tryz.prog 54 #[.int .i32 r] W fun e w' => e = .returned (.bool false) ∧ w' = W) := fun W => by
          have := isDigit_impl r W
          rw [show (decide (48 ≤ r) && decide (r ≤ 57)) = false by rw [Bool.and_eq_false_iff]; simp; omega] at this
          exact this
        have kk : (k : Int) ≤ (t.size : Int) := by omega
        clear hit hno hbe hd hr
        go_wp2_with fail
        refine (DQ.out _).mono ?_
        rintro e w2 ⟨rfl, hw2⟩
        subst w2
        go_wp2
        go_ret
        exact ⟨by rw [ND.out]; first | rfl | simp, HB2.out⟩
      · have hyes : 48 ≤ bt t k ∧ bt t k ≤ 57 := by
          unfold digD at hd
          simp only [Bool.and_eq_true, decide_eq_true_eq, Nat.zero_add] at hd
          exact hd.2
        rw [hbe] at hyes
        have hlo : (t[k]'hlt).toNat < 128 := by omega
        have hnx : ∀ ty, (Instr.next (.pointer (some ⟨w.heap.size, 0, none⟩)) true ty).run Tryz.prog wr = _ := fun ty => Lib.run_next_ascii_at wr w.heap.size t k ty hit hlt hlo
        have HB2 : Hid (Below w.heap.size w (wr.iterAt w.heap.size t (k + 1))) := Lib.below_iterAt HB.out (Nat.le_refl _) t (k + 1)
        have HI2 : Hid ((wr.iterAt w.heap.size t (k + 1)).heap[w.heap.size]? = some (.stringIter t (k + 1))) := Lib.iterAt_heap wr w.heap.size t k (k + 1) hit
        have NX : Hid (∀ j, j < k + 1 → digD t (0 + j) = true) := fun j hj => by
          by_cases e : j = k
          · subst e; exact hd
          · exact HN.out j (by omega)
        have DQ : Hid (∀ W, Calls Tryz.prog 54 #[.int .i32 ((t[k]'hlt).toNat : Int)] W fun e w' => e = .returned (.bool true) ∧ w' = W) := fun W => by
          have := isDigit_impl ((t[k]'hlt).toNat : Int) W
          rw [show (decide (48 ≤ ((t[k]'hlt).toNat : Int)) && decide (((t[k]'hlt).toNat : Int) ≤ 57)) = true by simp; omega] at this
          exact this
        clear hit hbe hd hyes
        go_wp2_with fail
        refine (DQ.out _).mono ?_
        rintro e w2 ⟨rfl, hw2⟩
        subst w2
        go_wp2
        go_roundw
        case rel => exact ⟨k + 1, by omega, HI2.out, NX.out, HB2.out⟩
        case measure => simp only [World.iterPos, HI2.out, HI.out]; omega
    · have ND : Hid (nd t 0 = t.size) := by
        have : k = t.size := by omega
        subst this
        exact nd_eq HN.out (digD_out t (by omega)) (by omega)
      have EX : Hid (t.extract 0 t.size = t) := by
        show _ = _
        apply ByteArray.ext
        simp [ByteArray.data_extract]
      have hnx : ∀ ty, (Instr.next (.pointer (some ⟨w.heap.size, 0, none⟩)) true ty).run Tryz.prog wr = _ := fun ty => Lib.run_next_end_at wr w.heap.size t k ty hit hlt
      clear hit
      go_wp2
      go_ret
      exact ⟨by rw [ND.out, EX.out]; rfl, HB.out⟩
-- FIRST
/-- strconv's ErrRange holds an error, or none. -/
def ErrW (w : World) : Prop := ∃ ev, w.cell? ⟨4, 0, none⟩ = some ev ∧ (ev = .nilIface ∨ ∃ te pe, ev = .iface te pe)
theorem ErrW.on {w w' : World} (h : ErrW w) (hb : Below w.heap.size w w') : ErrW w' := by
  obtain ⟨ev, h1, h2⟩ := h
  exact ⟨ev, (hb.cell (p := ⟨4, 0, none⟩) (World.block_lt_of_cell? w _ h1)).trans h1, h2⟩
def Pre95 : Prop := ∀ (s : ByteArray) (w : World), s.size ≤ 300 → Calls Tryz.prog 55 #[.string s, .string ⟨#[95]⟩] w fun e w' => e = .returned (.bool (decide (bt s 0 = 95))) ∧ w' = w
def Cut95 : Prop := ∀ (s : ByteArray) (w : World), s.size ≤ 300 → Calls Tryz.prog 65 #[.string s, .string ⟨#[95]⟩] w fun e w' => e = .returned (.tuple #[.string (if bt s 0 = 95 then s.extract 1 s.size else s), .bool (decide (bt s 0 = 95))]) ∧ Below w.heap.size w w'
def AtoiD : Prop := ∀ (s : ByteArray) (n : Nat) (w : World), 0 < n → n ≤ s.size → s.size ≤ 300 → (∀ j, j < n → digD s (0 + j) = true) → ErrW w → Calls Tryz.prog 67 #[.string (s.extract 0 n)] w fun e w' => ∃ x er, e = .returned (.tuple #[.int .i64 x, er]) ∧ ((er = .nilIface ∧ x = (numTo s 0 n : Int) ∧ x ≤ 9223372036854775807) ∨ ((∃ ty v, er = .iface ty v) ∧ 1000000000000 < numTo s 0 n)) ∧ Below w.heap.size w w'
theorem tok_loaded {w : World} {g : Nat} {x y : Value} (h : w.heap[g]? = some (.cells #[x, y] 29 (0, 0))) : (loadVar 29 ⟨g, 0, none⟩).run Tryz.prog w = .ok (.agg #[x, y]) w := by
  have c0 : w.cell? ⟨g, 0, none⟩ = some x := cell_at h rfl
  have c1 : w.cell? ⟨g, 1, none⟩ = some y := cell_at h rfl
  simp [loadVar, go_sem, c0, c1]
theorem results_tok_2 {fn : Func} {p u v : Tmp} (h : fn.results = #[.cell p 29, .tmp u, .tmp v]) (tmps : Array Value) (w : World) (g : Nat) (y z : Value) (hp : tmps.getD p undef = .pointer (some ⟨g, 0, none⟩))
    (hg : w.heap[g]? = some (.cells #[y, z] 29 (0, 0))) : (results fn tmps).run Tryz.prog w = .ok (.tuple #[.agg #[y, z], tmps.getD u undef, tmps.getD v undef]) w := by
  have e : (asAddr (.pointer (some ⟨g, 0, none⟩))).run Tryz.prog w = .ok ⟨g, 0, none⟩ w := by simp [asAddr]
  have l := tok_loaded hg
  have hp' : tmps[p]?.getD undef = .pointer (some ⟨g, 0, none⟩) := by simpa using hp
  simp [results, h, hp', e, l, Sem.run_bind, Result.andThen]
theorem tok_stored {w : World} {g : Nat} {x y x' y' : Value} {t : TypeId} (h : w.heap[g]? = some (.cells #[x, y] t (0, 0))) : ((w.setCell ⟨g, 0, none⟩ x').setCell ⟨g, 1, none⟩ y').heap[g]? = some (.cells #[x', y'] t (0, 0)) := by
  have h1 := heap_setCell_same w g 0 _ _ x' h
  have h2 := heap_setCell_same _ g 1 _ _ y' h1
  simpa using h2
/-- What a first token is told as. -/
def tkOut (k v : Int) (next : Nat) (code : Int) : Value := if code = 0 then .tuple #[.agg #[.int .i64 k, .int .i64 v], .int .i64 (next : Int), .int .i64 0] else .tuple #[.agg #[.int .i64 0, .int .i64 0], .int .i64 0, .int .i64 code]
theorem sat_over {s : ByteArray} {q n : Nat} : 1000000000000 < satTo s q n ↔ 1000000000000 < numTo s q n := by unfold satTo; split <;> omega
theorem sat_in {s : ByteArray} {q n : Nat} (h : ¬ 1000000000000 < numTo s q n) : satTo s q n = numTo s q n := by unfold satTo; rw [if_pos (by omega)]
theorem ext_size (s : ByteArray) (n : Nat) (h : n ≤ s.size) : (s.extract 0 n).size = n := by rw [ByteArray.size_extract]; omega
theorem ext_none (s : ByteArray) : s.extract 0 0 = ⟨#[]⟩ := by apply ByteArray.ext; simp [ByteArray.data_extract]
theorem loop_ne (bs : ByteArray) : ∀ (k i : Nat) (r : List UInt8), bs.size - i = k → (i < bs.size ∨ r ≠ []) → ByteArray.toList.loop bs i r ≠ []
  | 0, i, r, hk, h => by
    unfold ByteArray.toList.loop
    rw [if_neg (by omega)]
    intro e
    rcases h with h | h
    · omega
    · exact h (by simpa using e)
  | k + 1, i, r, hk, h => by
    unfold ByteArray.toList.loop
    rw [if_pos (by omega)]
    exact loop_ne bs k (i + 1) _ (by omega) (.inr (by simp))
theorem isEmpty_false {s : ByteArray} (h : 0 < s.size) : s.toList.isEmpty = false := by
  cases e : s.toList.isEmpty
  · rfl
  · rw [List.isEmpty_iff] at e
    exact absurd e (loop_ne s _ 0 [] rfl (.inl h))
theorem nd_digs {s : ByteArray} {p j : Nat} (h : j < nd s p) : digD s (p + j) = true := by
  unfold nd at h
  have key : ∀ (f : Nat → Bool) (b : Nat), ∀ j, j < lead f b → f j = true := by
    intro f b
    induction b with
    | zero => intro j h; simp [lead] at h
    | succ b ih =>
      intro j h
      simp only [lead] at h
      by_cases e : lead f b = b ∧ f b = true
      · rw [if_pos e] at h
        by_cases e2 : j = b
        · subst e2; exact e.2
        · exact ih j (by omega)
      · rw [if_neg e] at h
        exact ih j h
  exact key _ _ j h
set_option maxRecDepth 20000 in
set_option maxHeartbeats 4000000 in
theorem firstNumberA (HC : Cut95) (HAt : AtoiD) (t : ByteArray) (ht : t.size ≤ 300) (h0 : 0 < t.size) (hb95 : ¬ bt t 0 = 95) {w : World} (he : ErrW w) :
    Calls Tryz.prog 56 #[.string t] w fun e w' => e = .returned (tkOut 1 (numAtS t 0).1 (numAtS t 0).2.1 (numAtS t 0).2.2) ∧ Below w.heap.size w w' := by
  have HE : Hid (ErrW w) := he
  have UZ : t.size ≤ 300 := by exact ht
  have NA : Hid (numAtS t 0 = (if nd t 0 = 0 then (0, 0, 8) else if 1000000000000 < satTo t 0 (nd t 0) then (0, 0 + nd t 0, 6) else (satTo t 0 (nd t 0), 0 + nd t 0, 0))) := by
    show _ = _
    unfold numAtS
    dsimp only
    simp only [if_neg hb95]
    try simp only [Nat.zero_add]
  obtain ⟨RR, hRR⟩ : ∃ RR, RR = numAtS t 0 := ⟨_, rfl⟩
  rw [← hRR] at NA ⊢
  clear hRR
  have CC : Hid (∀ W, Calls Tryz.prog 65 #[.string t, .string ⟨#[95]⟩] W fun e w' => e = .returned (.tuple #[.string t, .bool false]) ∧ Below W.heap.size W w') := fun W => by
    have := HC t W ht
    rw [if_neg hb95, decide_eq_false hb95] at this
    exact this
  generalize t = u at *
  have hnd : nd u 0 ≤ u.size := by have := nd_le u 0; omega
  have LD : Hid (∀ W, Calls Tryz.prog 66 #[.string u] W fun e w' => e = .returned (.string (u.extract 0 (nd u 0))) ∧ Below W.heap.size W w') := fun W => leading_impl u UZ W
  have AD : Hid (0 < nd u 0 → ∀ W, ErrW W → Calls Tryz.prog 67 #[.string (u.extract 0 (nd u 0))] W fun e w' => ∃ x er, e = .returned (.tuple #[.int .i64 x, er]) ∧ ((er = .nilIface ∧ x = (numTo u 0 (nd u 0) : Int) ∧ x ≤ 9223372036854775807) ∨ ((∃ ty v, er = .iface ty v) ∧ 1000000000000 < numTo u 0 (nd u 0))) ∧ Below W.heap.size W w') := fun hn W hW => HAt u (nd u 0) W hn hnd UZ (fun j hj => nd_digs hj) hW
  have SO : Hid (1000000000000 < satTo u 0 (nd u 0) ↔ 1000000000000 < numTo u 0 (nd u 0)) := sat_over
  have SI : Hid (¬ 1000000000000 < numTo u 0 (nd u 0) → satTo u 0 (nd u 0) = numTo u 0 (nd u 0)) := sat_in
  have DS := ext_size u (nd u 0) hnd
  have DE : Hid (nd u 0 = 0 → u.extract 0 (nd u 0) = ⟨#[]⟩) := fun h => by rw [h]; exact ext_none u
  generalize hn : nd u 0 = n at *
  generalize numTo u 0 n = N at *
  generalize satTo u 0 n = X at *
  generalize u.extract 0 n = ds at *
  have n3 : (n : Int) ≤ 300 := by omega
  have Z0 : Hid ((w.alloc (.cells #[.int .i64 0, .int .i64 0] 29)).heap[w.heap.size]? = some (.cells #[.int .i64 0, .int .i64 0] 29 (0, 0))) := heap_alloc_new w _
  clear hb95 he hn
  go_enter Tryz.func56, Tryz.ntmps56
  go_wp2_with fail
  refine (CC.out _).mono ?_
  rintro e w1 ⟨rfl, hb⟩
  have B1 : Hid (Below w.heap.size w w1) := bTrans (bAlloc (Below.refl _ _) _) hb
  have Z1 : Hid (w1.heap[w.heap.size]? = some (.cells #[.int .i64 0, .int .i64 0] 29 (0, 0))) := (hb.block _ (lt_of_heapA Z0.out)).trans Z0.out
  clear hb CC Z0
  go_wp2_with fail
  refine (LD.out _).mono ?_
  rintro e w2 ⟨rfl, hb⟩
  have B2 : Hid (Below w.heap.size w w2) := bTrans B1.out hb
  have Z2 : Hid (w2.heap[w.heap.size]? = some (.cells #[.int .i64 0, .int .i64 0] 29 (0, 0))) := (hb.block _ (lt_of_heapA Z1.out)).trans Z1.out
  clear hb LD Z1
  by_cases hn0 : n = 0
  · have NR : Hid (RR = (0, 0, 8)) := by show _ = _; rw [NA.out, if_pos hn0]
    have hds : ds = ⟨#[]⟩ := DE.out hn0
    subst hds
    have zc0 : w2.cell? ⟨w.heap.size, 0, none⟩ = some (.int .i64 0) := cell_at Z2.out rfl
    have zc1 : w2.cell? ⟨w.heap.size, 1, none⟩ = some (.int .i64 0) := cell_at Z2.out rfl
    have zf0 : w2.frozen? ⟨w.heap.size, 0, none⟩ = false := free_at Z2.out _
    have zf1 : w2.frozen? ⟨w.heap.size, 1, none⟩ = false := free_at Z2.out _
    clear NA AD DE
    go_wp2
    refine bodyPost_ret (results_tok_2 Tryz.results56 _ _ w.heap.size _ _ rfl (tok_stored Z2.out)) rfl ?_
    exact ⟨by rw [NR.out]; rfl, below_setCell (below_setCell B2.out (Nat.le_refl _) _ _) (Nat.le_refl _) _ _⟩
  · have hE : ds.toList.isEmpty = false := isEmpty_false (by omega)
    have CA := AD.out (by omega) w2 (HE.out.on B2.out)
    clear AD DE
    go_wp2_with fail
    refine CA.mono ?_
    rintro e w3 ⟨x, er, rfl, hx, hb⟩
    have B3 : Hid (Below w.heap.size w w3) := bTrans B2.out hb
    have z3 : w3.heap[w.heap.size]? = some (.cells #[.int .i64 0, .int .i64 0] 29 (0, 0)) := (hb.block _ (lt_of_heapA Z2.out)).trans Z2.out
    have Z3 : Hid (w3.heap[w.heap.size]? = some (.cells #[.int .i64 0, .int .i64 0] 29 (0, 0))) := z3
    have zc0 : w3.cell? ⟨w.heap.size, 0, none⟩ = some (.int .i64 0) := cell_at z3 rfl
    have zc1 : w3.cell? ⟨w.heap.size, 1, none⟩ = some (.int .i64 0) := cell_at z3 rfl
    have zf0 : w3.frozen? ⟨w.heap.size, 0, none⟩ = false := free_at z3 _
    have zf1 : w3.frozen? ⟨w.heap.size, 1, none⟩ = false := free_at z3 _
    clear hb CA z3 Z2
    rcases hx with ⟨rfl, hx1, hx2⟩ | ⟨⟨ty, ev, rfl⟩, hx1⟩
    · by_cases hov : 1000000000000 < N
      · have NR : Hid (RR = (0, 0 + n, 6)) := by show _ = _; rw [NA.out, if_neg hn0, if_pos (SO.out.2 hov)]
        have hok : ok x = false := by unfold ok; simp; omega
        have NK : Hid (∀ W, Calls Tryz.prog 21 #[.int .i64 x] W fun e w' => e = .returned (.bool false) ∧ w' = W) := fun W => by have := numOk_impl x W; rw [hok] at this; exact this
        clear hok NA SO SI hov hx1 hx2
        go_wp2_with fail
        refine (NK.out _).mono ?_
        rintro e w4 ⟨rfl, hw⟩
        subst w4
        go_wp2
        refine bodyPost_ret (results_tok_2 Tryz.results56 _ _ w.heap.size _ _ rfl (tok_stored Z3.out)) rfl ?_
        exact ⟨by rw [NR.out]; rfl, below_setCell (below_setCell B3.out (Nat.le_refl _) _ _) (Nat.le_refl _) _ _⟩
      · have NR : Hid (RR = (x, 0 + n, 0)) := by show _ = _; rw [NA.out, if_neg hn0, if_neg (fun h => hov (SO.out.1 h)), SI.out hov, hx1]
        have hok : ok x = true := by unfold ok; simp; omega
        have NK : Hid (∀ W, Calls Tryz.prog 21 #[.int .i64 x] W fun e w' => e = .returned (.bool true) ∧ w' = W) := fun W => by have := numOk_impl x W; rw [hok] at this; exact this
        have xb : 0 ≤ x ∧ x ≤ 1000000000000 := by omega
        obtain ⟨xb0, xb1⟩ := xb
        have dsz : (ds.size : Int) = n := by omega
        clear hok NA SO SI hov hx1 hx2
        go_wp2_with fail
        refine (NK.out _).mono ?_
        rintro e w4 ⟨rfl, hw⟩
        subst w4
        go_wp2
        refine bodyPost_ret (results_tok_2 Tryz.results56 _ _ w.heap.size _ _ rfl (tok_stored Z3.out)) rfl ?_
        exact ⟨by rw [NR.out]; simp [tkOut, dsz], below_setCell (below_setCell B3.out (Nat.le_refl _) _ _) (Nat.le_refl _) _ _⟩
    · have NR : Hid (RR = (0, 0 + n, 6)) := by show _ = _; rw [NA.out, if_neg hn0, if_pos (SO.out.2 hx1)]
      clear NA SO SI hx1
      go_wp2
      refine bodyPost_ret (results_tok_2 Tryz.results56 _ _ w.heap.size _ _ rfl (tok_stored Z3.out)) rfl ?_
      exact ⟨by rw [NR.out]; rfl, below_setCell (below_setCell B3.out (Nat.le_refl _) _ _) (Nat.le_refl _) _ _⟩
set_option maxRecDepth 20000 in
set_option maxHeartbeats 4000000 in
theorem firstNumberB (HC : Cut95) (HAt : AtoiD) (t : ByteArray) (ht : t.size ≤ 300) (h0 : 0 < t.size) (hb95 : bt t 0 = 95) {w : World} (he : ErrW w) :
    Calls Tryz.prog 56 #[.string t] w fun e w' => e = .returned (tkOut 1 (numAtS t 0).1 (numAtS t 0).2.1 (numAtS t 0).2.2) ∧ Below w.heap.size w w' := by
  have HE : Hid (ErrW w) := he
  have UZ : (t.extract 1 t.size).size ≤ 300 := by rw [sub_size t 1 (by omega)]; omega
  have NA : Hid (numAtS t 0 = (if nd (t.extract 1 t.size) 0 = 0 then (0, 1, 8) else if 1000000000000 < satTo (t.extract 1 t.size) 0 (nd (t.extract 1 t.size) 0) then (0, 1 + nd (t.extract 1 t.size) 0, 6) else (-(satTo (t.extract 1 t.size) 0 (nd (t.extract 1 t.size) 0)), 1 + nd (t.extract 1 t.size) 0, 0))) := by
    show _ = _
    unfold numAtS
    dsimp only
    simp only [if_pos hb95]
    rw [nd_sub t 1 0 (by omega), satTo_sub t 1 0 _ (by omega)]
  obtain ⟨RR, hRR⟩ : ∃ RR, RR = numAtS t 0 := ⟨_, rfl⟩
  rw [← hRR] at NA ⊢
  clear hRR
  have CC : Hid (∀ W, Calls Tryz.prog 65 #[.string t, .string ⟨#[95]⟩] W fun e w' => e = .returned (.tuple #[.string (t.extract 1 t.size), .bool true]) ∧ Below W.heap.size W w') := fun W => by
    have := HC t W ht
    rw [if_pos hb95, decide_eq_true hb95] at this
    exact this
  generalize (t.extract 1 t.size) = u at *
  have hnd : nd u 0 ≤ u.size := by have := nd_le u 0; omega
  have LD : Hid (∀ W, Calls Tryz.prog 66 #[.string u] W fun e w' => e = .returned (.string (u.extract 0 (nd u 0))) ∧ Below W.heap.size W w') := fun W => leading_impl u UZ W
  have AD : Hid (0 < nd u 0 → ∀ W, ErrW W → Calls Tryz.prog 67 #[.string (u.extract 0 (nd u 0))] W fun e w' => ∃ x er, e = .returned (.tuple #[.int .i64 x, er]) ∧ ((er = .nilIface ∧ x = (numTo u 0 (nd u 0) : Int) ∧ x ≤ 9223372036854775807) ∨ ((∃ ty v, er = .iface ty v) ∧ 1000000000000 < numTo u 0 (nd u 0))) ∧ Below W.heap.size W w') := fun hn W hW => HAt u (nd u 0) W hn hnd UZ (fun j hj => nd_digs hj) hW
  have SO : Hid (1000000000000 < satTo u 0 (nd u 0) ↔ 1000000000000 < numTo u 0 (nd u 0)) := sat_over
  have SI : Hid (¬ 1000000000000 < numTo u 0 (nd u 0) → satTo u 0 (nd u 0) = numTo u 0 (nd u 0)) := sat_in
  have DS := ext_size u (nd u 0) hnd
  have DE : Hid (nd u 0 = 0 → u.extract 0 (nd u 0) = ⟨#[]⟩) := fun h => by rw [h]; exact ext_none u
  generalize hn : nd u 0 = n at *
  generalize numTo u 0 n = N at *
  generalize satTo u 0 n = X at *
  generalize u.extract 0 n = ds at *
  have n3 : (n : Int) ≤ 300 := by omega
  have Z0 : Hid ((w.alloc (.cells #[.int .i64 0, .int .i64 0] 29)).heap[w.heap.size]? = some (.cells #[.int .i64 0, .int .i64 0] 29 (0, 0))) := heap_alloc_new w _
  clear hb95 he hn
  go_enter Tryz.func56, Tryz.ntmps56
  go_wp2_with fail
  refine (CC.out _).mono ?_
  rintro e w1 ⟨rfl, hb⟩
  have B1 : Hid (Below w.heap.size w w1) := bTrans (bAlloc (Below.refl _ _) _) hb
  have Z1 : Hid (w1.heap[w.heap.size]? = some (.cells #[.int .i64 0, .int .i64 0] 29 (0, 0))) := (hb.block _ (lt_of_heapA Z0.out)).trans Z0.out
  clear hb CC Z0
  go_wp2_with fail
  refine (LD.out _).mono ?_
  rintro e w2 ⟨rfl, hb⟩
  have B2 : Hid (Below w.heap.size w w2) := bTrans B1.out hb
  have Z2 : Hid (w2.heap[w.heap.size]? = some (.cells #[.int .i64 0, .int .i64 0] 29 (0, 0))) := (hb.block _ (lt_of_heapA Z1.out)).trans Z1.out
  clear hb LD Z1
  by_cases hn0 : n = 0
  · have NR : Hid (RR = (0, 1, 8)) := by show _ = _; rw [NA.out, if_pos hn0]
    have hds : ds = ⟨#[]⟩ := DE.out hn0
    subst hds
    have zc0 : w2.cell? ⟨w.heap.size, 0, none⟩ = some (.int .i64 0) := cell_at Z2.out rfl
    have zc1 : w2.cell? ⟨w.heap.size, 1, none⟩ = some (.int .i64 0) := cell_at Z2.out rfl
    have zf0 : w2.frozen? ⟨w.heap.size, 0, none⟩ = false := free_at Z2.out _
    have zf1 : w2.frozen? ⟨w.heap.size, 1, none⟩ = false := free_at Z2.out _
    clear NA AD DE
    go_wp2
    refine bodyPost_ret (results_tok_2 Tryz.results56 _ _ w.heap.size _ _ rfl (tok_stored Z2.out)) rfl ?_
    exact ⟨by rw [NR.out]; rfl, below_setCell (below_setCell B2.out (Nat.le_refl _) _ _) (Nat.le_refl _) _ _⟩
  · have hE : ds.toList.isEmpty = false := isEmpty_false (by omega)
    have CA := AD.out (by omega) w2 (HE.out.on B2.out)
    clear AD DE
    go_wp2_with fail
    refine CA.mono ?_
    rintro e w3 ⟨x, er, rfl, hx, hb⟩
    have B3 : Hid (Below w.heap.size w w3) := bTrans B2.out hb
    have z3 : w3.heap[w.heap.size]? = some (.cells #[.int .i64 0, .int .i64 0] 29 (0, 0)) := (hb.block _ (lt_of_heapA Z2.out)).trans Z2.out
    have Z3 : Hid (w3.heap[w.heap.size]? = some (.cells #[.int .i64 0, .int .i64 0] 29 (0, 0))) := z3
    have zc0 : w3.cell? ⟨w.heap.size, 0, none⟩ = some (.int .i64 0) := cell_at z3 rfl
    have zc1 : w3.cell? ⟨w.heap.size, 1, none⟩ = some (.int .i64 0) := cell_at z3 rfl
    have zf0 : w3.frozen? ⟨w.heap.size, 0, none⟩ = false := free_at z3 _
    have zf1 : w3.frozen? ⟨w.heap.size, 1, none⟩ = false := free_at z3 _
    clear hb CA z3 Z2
    rcases hx with ⟨rfl, hx1, hx2⟩ | ⟨⟨ty, ev, rfl⟩, hx1⟩
    · by_cases hov : 1000000000000 < N
      · have NR : Hid (RR = (0, 1 + n, 6)) := by show _ = _; rw [NA.out, if_neg hn0, if_pos (SO.out.2 hov)]
        have hok : ok x = false := by unfold ok; simp; omega
        have NK : Hid (∀ W, Calls Tryz.prog 21 #[.int .i64 x] W fun e w' => e = .returned (.bool false) ∧ w' = W) := fun W => by have := numOk_impl x W; rw [hok] at this; exact this
        clear hok NA SO SI hov hx1 hx2
        go_wp2_with fail
        refine (NK.out _).mono ?_
        rintro e w4 ⟨rfl, hw⟩
        subst w4
        go_wp2
        refine bodyPost_ret (results_tok_2 Tryz.results56 _ _ w.heap.size _ _ rfl (tok_stored Z3.out)) rfl ?_
        exact ⟨by rw [NR.out]; rfl, below_setCell (below_setCell B3.out (Nat.le_refl _) _ _) (Nat.le_refl _) _ _⟩
      · have NR : Hid (RR = (-x, 1 + n, 0)) := by show _ = _; rw [NA.out, if_neg hn0, if_neg (fun h => hov (SO.out.1 h)), SI.out hov, hx1]
        have hok : ok x = true := by unfold ok; simp; omega
        have NK : Hid (∀ W, Calls Tryz.prog 21 #[.int .i64 x] W fun e w' => e = .returned (.bool true) ∧ w' = W) := fun W => by have := numOk_impl x W; rw [hok] at this; exact this
        have xb : 0 ≤ x ∧ x ≤ 1000000000000 := by omega
        obtain ⟨xb0, xb1⟩ := xb
        have dsz : (ds.size : Int) = n := by omega
        clear hok NA SO SI hov hx1 hx2
        go_wp2_with fail
        refine (NK.out _).mono ?_
        rintro e w4 ⟨rfl, hw⟩
        subst w4
        go_wp2
        refine bodyPost_ret (results_tok_2 Tryz.results56 _ _ w.heap.size _ _ rfl (tok_stored Z3.out)) rfl ?_
        exact ⟨by rw [NR.out]; simp [tkOut, dsz], below_setCell (below_setCell B3.out (Nat.le_refl _) _ _) (Nat.le_refl _) _ _⟩
    · have NR : Hid (RR = (0, 1 + n, 6)) := by show _ = _; rw [NA.out, if_neg hn0, if_pos (SO.out.2 hx1)]
      clear NA SO SI hx1
      go_wp2
      refine bodyPost_ret (results_tok_2 Tryz.results56 _ _ w.heap.size _ _ rfl (tok_stored Z3.out)) rfl ?_
      exact ⟨by rw [NR.out]; rfl, below_setCell (below_setCell B3.out (Nat.le_refl _) _ _) (Nat.le_refl _) _ _⟩
end Go.Proofs.YtcaidhmolnnikaaGreatDoor
