/-
  Several walks, one behind the other: ImplMake1, ImplMake3, ImplMake5, LookC, CopyL, ImplCopy1, ImplOut1, MakeQ, ImplMake9, ImplScan.
-/
import Derived.Test.YtcpgdhffemecbabZ1
import Derived.Test.YtcpgdhffemecbabArrs
import Derived.Test.YtcpgdhffemecbabMakeM
import Derived.Test.YtcpgdhffemecbabEachP
import Derived.Test.YtcpgdhffemecbabCutI
import Derived.Shelf.Abstract
import Derived.Test.YtcpgdhffemecbabMakeP
import Derived.Test.YtcpgdhffemecbabGrow
import Derived.Test.YtcpgdhffemecbabSpecScan
namespace Go.Proofs.Ytcpgdhffemecbab
open Go.RowKit
set_option linter.unusedVariables false
set_option linter.unusedSimpArgs false
/-- Are all arrays of a list right? -/
def allOkV (F : List (List Int)) (m : Nat) : Bool := (List.range m).all fun i => arrOk (F.getD (2 * i) []) (F.getD (2 * i + 1) [])
theorem allOkV_succ (F : List (List Int)) (m : Nat) : allOkV F (m + 1) = (allOkV F m && arrOk (F.getD (2 * m) []) (F.getD (2 * m + 1) [])) := by
  unfold allOkV; rw [List.range_succ, List.all_append]; simp
theorem allOkV_no {F : List (List Int)} {m k : Nat} (hk : k < m) (h : arrOk (F.getD (2 * k) []) (F.getD (2 * k + 1) []) = false) : allOkV F m = false := by
  unfold allOkV
  rw [List.all_eq_false]
  exact ⟨k, by simpa using hk, by rw [h]; decide⟩
set_option maxRecDepth 20000 in
set_option maxHeartbeats 1000000 in
/-- allOk. -/
theorem allOk_impl {F : List (List Int)} {w : World} {m ca : Nat} {aa : Option Addr} (hA : ArrsI w (.slice aa m ca) F) (hm : m ≤ 2) (hL : ∀ j, (F.getD j []).length ≤ 1048576) :
    Calls Try.prog 31 #[.slice aa m ca] w fun r w' => r = .returned (.bool (allOkV F m)) ∧ Below w.heap.size w w' := by
  have HA : Hid (ArrsI w (.slice aa m ca) F) := hA
  have HL : Hid (∀ j, (F.getD j []).length ≤ 1048576) := hL
  clear hA hL
  go_enter Try.func31, Try.ntmps31
  go_wp2
  go_loopw [7] (fun i w' => ∃ k : Nat, k ≤ m ∧ i = .int .i64 (k : Int) ∧ allOkV F k = true ∧ Below w.heap.size w w') (fun i _ => m - (intOf i).toNat)
  case atStart => exact ⟨0, by omega, rfl, rfl, Below.refl _ _⟩
  case round =>
    obtain ⟨j, hk, rfl, ht, hb⟩ := hrel
    have HT : Hid (allOkV F j = true) := ht
    have HB : Hid (Below w.heap.size w wr) := hb
    clear ht hb
    by_cases hlt : (j : Int) < (m : Int)
    · obtain ⟨o, off, sx, sy, rfl, ho, p0, p1, i0, i1⟩ := (HA.out.keep HB.out).at (k := j) (by omega)
      obtain ⟨ax, cx, rfl, gix, ix⟩ := i0
      obtain ⟨ay, cy, rfl, giy, iy⟩ := i1
      have A1 : Hid (ArrI wr (.agg #[.slice ax (F.getD (2 * j) []).length cx, .slice ay (F.getD (2 * j + 1) []).length cy]) (F.getD (2 * j) []) (F.getD (2 * j + 1) [])) := ⟨_, _, _, _, rfl, ix, iy, gix, giy⟩
      have HC : Hid (∀ W, Below wr.heap.size wr W → Calls Try.prog 71 #[.agg #[.slice ax (F.getD (2 * j) []).length cx, .slice ay (F.getD (2 * j + 1) []).length cy]] W fun e w' => e = .returned (.bool (arrOk (F.getD (2 * j) []) (F.getD (2 * j + 1) []))) ∧ Below W.heap.size W w') := fun W h => arrOk_impl (A1.out.keep h) (HL.out _)
      have HY : Hid (arrOk (F.getD (2 * j) []) (F.getD (2 * j + 1) []) = true → allOkV F (j + 1) = true) := fun h => by rw [allOkV_succ, HT.out, h]; rfl
      have HN : Hid (arrOk (F.getD (2 * j) []) (F.getD (2 * j + 1) []) = false → allOkV F m = false) := fun h => allOkV_no (by omega) h
      clear ix iy gix giy A1
      generalize (F.getD (2 * j) []).length = ls at *
      generalize (F.getD (2 * j + 1) []).length = ld at *
      generalize arrOk (F.getD (2 * j) []) (F.getD (2 * j + 1) []) = q at *
      cases q
      · have HN' : Hid (allOkV F m = false) := HN.out rfl
        clear HN HY
        go_wp2_with fail
        refine (HC.out _ (bAlloc (Below.refl _ _) _)).mono ?_
        rintro r w2 ⟨rfl, hb⟩
        have HB2 : Hid (Below w.heap.size w w2) := bTrans HB.out (bTrans (bAlloc (Below.refl _ _) _) hb)
        clear hb
        go_wp2
        go_ret
        exact ⟨by rw [HN'.out]; rfl, HB2.out⟩
      · have HY' : Hid (allOkV F (j + 1) = true) := HY.out rfl
        clear HN HY
        go_wp2_with fail
        refine (HC.out _ (bAlloc (Below.refl _ _) _)).mono ?_
        rintro r w2 ⟨rfl, hb⟩
        have HB2 : Hid (Below w.heap.size w w2) := bTrans HB.out (bTrans (bAlloc (Below.refl _ _) _) hb)
        clear hb
        go_wp2
        go_roundw
        case rel => exact ⟨j + 1, by omega, by go_num, HY'.out, HB2.out⟩
        case measure => simp [intOf]; omega
    · obtain rfl : j = m := by omega
      go_wp2
      go_ret
      exact ⟨by rw [HT.out]; rfl, HB.out⟩
set_option maxRecDepth 20000 in
set_option maxHeartbeats 1000000 in
/-- vectorCopy. -/
theorem vecCopy_impl {l : List Int} {w : World} {v : Value} (h : IntsI w v l) (hl : l.length ≤ 1048576) :
    Calls Try.prog 134 #[v] w fun r w' => ∃ v', r = .returned v' ∧ Arr w.heap.size w'.heap.size w' v' [(l.length : Int)] l ∧ Below w.heap.size w w' := by
  obtain ⟨a, c, rfl, g, i⟩ := h
  have HI : Hid (IntsI w (.slice a l.length c) l) := ⟨a, c, rfl, g, i⟩
  have HC : Hid (∀ W, Below w.heap.size w W → Calls Try.prog 77 #[.slice a l.length c] W fun e w' => ∃ a' c', e = .returned (.slice a' l.length c') ∧ Piece W.heap.size w'.heap.size w' (.slice a' l.length c') l ∧ Below W.heap.size W w') := fun W h => copied_new (HI.out.keep h) hl
  clear g i
  go_enter Try.func134, Try.ntmps134
  go_wp2_with fail
  refine (HC.out _ (bAlloc (bAlloc (Below.refl _ _) _) _)).mono ?_
  rintro r w1 ⟨a2, c2, rfl, hp, hb⟩
  have HP : Hid (Piece (w.heap.size + 2) w1.heap.size w1 (.slice a2 l.length c2) l) := by show Piece _ _ _ _ _; simpa using hp
  have HB : Hid (Below w.heap.size w w1) := bTrans (bAlloc (bAlloc (Below.refl _ _) _) _) hb
  have Y : Hid (Box w1 w.heap.size (.slice none 0 0) (.slice none 0 0) 26) := ((box_new w _ _ _).keep (bAlloc (Below.refl _ _) _)).keep hb
  have PS : Hid (Piece (w.heap.size + 1) (w.heap.size + 2) w1 (.slice (some ⟨w.heap.size + 1, 0, none⟩) 1 1) [(l.length : Int)]) := by
    have p := OwnInts.piece (ownInts_new (w.alloc (.cells #[.slice none 0 0, .slice none 0 0] 26)) [(l.length : Int)]) (B := w.heap.size + 1) (C := w.heap.size + 2) (by simp) (by simp) 1
    have p' : Piece (w.heap.size + 1) (w.heap.size + 2) ((w.alloc (.cells #[.slice none 0 0, .slice none 0 0] 26)).alloc (.cells #[.int .i64 (l.length : Int)] 3)) (.slice (some ⟨w.heap.size + 1, 0, none⟩) 1 1) [(l.length : Int)] := by simpa [vals] using p
    exact p'.keep hb
  have LT : Hid (w.heap.size + 2 ≤ w1.heap.size) := by have := hb.size; show _ ≤ _; simpa using this
  clear hp hb
  have y0 := Y.out.c0
  have y1 := Y.out.c1
  have f0 : w1.frozen? ⟨w.heap.size, 0, none⟩ = false := free_at Y.out 0
  have f1 : w1.frozen? ⟨w.heap.size, 1, none⟩ = false := free_at Y.out 1
  have HR : Hid (((w1.setCell ⟨w.heap.size, 0, none⟩ (.slice (some ⟨w.heap.size + 1, 0, none⟩) 1 1)).setCell ⟨w.heap.size, 1, none⟩ (.slice a2 l.length c2)).heap[w.heap.size]? = some (.cells #[.slice (some ⟨w.heap.size + 1, 0, none⟩) 1 1, .slice a2 l.length c2] 26 (0, 0))) := arr_stored Y.out
  go_wp2
  refine bodyPost_ret (v := .agg #[.slice (some ⟨w.heap.size + 1, 0, none⟩) 1 1, .slice a2 l.length c2]) (results_arr rfl _ _ w.heap.size _ _ rfl HR.out) rfl ?_
  refine ⟨_, rfl, ?_, below_setCell (below_setCell HB.out (Nat.le_refl _) _ _) (Nat.le_refl _) _ _⟩
  have L := LT.out
  have p1' := (PS.out.win (win_setCell w1 w.heap.size 0 (.slice (some ⟨w.heap.size + 1, 0, none⟩) 1 1)) (.inr (by omega))).win (win_setCell _ w.heap.size 1 (.slice a2 l.length c2)) (.inr (by omega))
  have p2' := (HP.out.win (win_setCell w1 w.heap.size 0 (.slice (some ⟨w.heap.size + 1, 0, none⟩) 1 1)) (.inr (by omega))).win (win_setCell _ w.heap.size 1 (.slice a2 l.length c2)) (.inr (by omega))
  exact ⟨_, _, rfl, p1'.mono (by omega) (by simp only [size_setCell]; omega), p2'.mono (by omega) (by simp only [size_setCell]; omega), p1'.apart p2' (.inl (by omega))⟩
/-- What soleNumber tells: a code, and the number beside it. -/
def soleC (s d : List Int) (q : Bool) : Int := if arrOk s d = true ∧ q = true then (if d.length ≠ 1 then 3 else 0) else 1
def soleV (s d : List Int) (q : Bool) : Int := if soleC s d q = 0 then d.getD 0 0 else 0
/-- The shape as withRows has it. -/
def rowsS (s : List Int) : List Int := if s = [] then [1] else s
set_option maxRecDepth 20000 in
set_option maxHeartbeats 2000000 in
/-- ofRows. -/
theorem ofRows_impl {s : List Int} {w : World} {v : Value} (x : Int) (h : IntsI w v s) (hs : s.length ≤ 1048576) (h0 : s ≠ []) :
    Calls Try.prog 136 #[v, .int .i64 x] w fun r w' => ∃ a' c', r = .returned (.slice a' (x :: s.drop 1).length c') ∧ Piece w.heap.size w'.heap.size w' (.slice a' (x :: s.drop 1).length c') (x :: s.drop 1) ∧ Below w.heap.size w w' := by
  obtain ⟨a, c, rfl, g, i⟩ := h
  have HC : Hid (Calls Try.prog 77 #[.slice a s.length c] w fun e w' => e = .returned (.slice (some ⟨w.heap.size, 0, none⟩) s.length s.length) ∧ w' = w.alloc (.cells (vals s) 3)) := copied_impl c i hs
  have hp : 0 < s.length := by cases s with | nil => exact absurd rfl h0 | cons _ _ => simp
  have hp' : (0 : Int) < (s.length : Int) := by omega
  have EL : Hid ((x :: s.drop 1).length = s.length) := by show _ = _; simp; omega
  have ES : Hid (s.set 0 x = x :: s.drop 1) := by cases s with | nil => exact absurd rfl h0 | cons _ _ => rfl
  have HL : Hid (s.length ≤ 1048576) := hs
  rw [EL.out]
  clear i g hs h0
  go_enter Try.func136, Try.ntmps136
  go_wp2_with fail
  refine HC.out.mono ?_
  rintro r w1 ⟨rfl, hw⟩
  have HB : Hid (Below w.heap.size w w1) := by rw [hw]; exact bAlloc (Below.refl _ _) _
  have HP : Hid (Piece w.heap.size (w.heap.size + 1) w1 (.slice (some ⟨w.heap.size, 0, none⟩) s.length s.length) s) := by
    rw [hw]; exact OwnInts.piece (ownInts_new w s) (Nat.le_refl _) (by simp) _
  have LT : Hid (w.heap.size + 1 ≤ w1.heap.size) := by rw [hw]; show _ ≤ _; simp
  clear hw HC
  obtain ⟨t1, t2, _, _, _⟩ := HP.out.cellAt (k := 0) hp
  rw [Nat.zero_add] at t1 t2
  generalize s.getD 0 0 = z at t1
  go_wp2
  go_ret
  refine ⟨_, _, rfl, ?_, below_setCell HB.out (Nat.le_refl _) _ _⟩
  have q := HP.out.set hp x
  rw [ES.out] at q
  exact q.mono (Nat.le_refl _) (by rw [size_setCell]; exact LT.out)
end Go.Proofs.Ytcpgdhffemecbab
namespace Go.Proofs.Ytcpgdhffemecbab
open Go.RowKit
set_option linter.unusedVariables false
set_option linter.unusedSimpArgs false
/-- The first k of n places are filled, again and again. -/
def againTo (e : List Int) (n k : Nat) : List Int := (List.range n).map fun i => if i < k then e.getD (i % e.length) 0 else 0
theorem againTo_zero (e : List Int) (n : Nat) : againTo e n 0 = List.replicate n 0 := by
  unfold againTo
  apply List.ext_getElem
  · simp
  · intro i h1 h2; simp
theorem againTo_all {e : List Int} (h : e ≠ []) (n : Nat) : againTo e n n = againD e n := by
  unfold againTo againD
  apply List.map_congr_left
  intro i hi
  rw [if_pos (by simpa using hi), if_neg h]
theorem againD_nil (n : Nat) : againD [] n = List.replicate n 0 := by
  unfold againD
  apply List.ext_getElem
  · simp
  · intro i h1 h2; simp
theorem againTo_length (e : List Int) (n k : Nat) : (againTo e n k).length = n := by simp [againTo]
theorem againTo_at (e : List Int) {n k i : Nat} (hi : i < n) : (againTo e n k).getD i 0 = if i < k then e.getD (i % e.length) 0 else 0 := by
  unfold againTo
  simp [hi]
theorem paste_again {e : List Int} {n k m : Nat} (hk : k % e.length = 0) (hm : m ≤ e.length) (hn : k + m ≤ n) : paste (againTo e n k) k e m = againTo e n (k + m) := by
  apply List.ext_getElem
  · rw [paste_length (by rw [againTo_length]; exact hn) hm, againTo_length, againTo_length]
  · intro i h1 h2
    have hi : i < n := by rwa [againTo_length] at h2
    have q := paste_at (l := againTo e n k) (e := e) (k := k) (m := m) (by rw [againTo_length]; exact hn) hm i
    rw [againTo_at e hi] at q
    have r := againTo_at e (k := k + m) hi
    simp only [List.getD_eq_getElem?_getD] at q r
    rw [List.getElem?_eq_getElem h1] at q
    rw [List.getElem?_eq_getElem h2] at r
    simp only [Option.getD_some] at q r
    rw [q, r]
    by_cases c1 : i < k
    · rw [if_pos c1, if_pos c1, if_pos (by omega)]
    · rw [if_neg c1, if_neg c1]
      by_cases c2 : i < k + m
      · rw [if_pos c2, if_pos c2]
        have : i % e.length = i - k := by
          have e1 : i = k + (i - k) := by omega
          conv => lhs; rw [e1]
          rw [Nat.add_mod, hk, Nat.zero_add, Nat.mod_mod, Nat.mod_eq_of_lt (by omega)]
        rw [this]
      · rw [if_neg c2, if_neg c2]
set_option maxRecDepth 20000 in
set_option maxHeartbeats 2000000 in
/-- againAndAgain. -/
theorem again_impl {e : List Int} {a : Option Addr} {w : World} {n c : Nat} (h : Ints w a e) (he : e.length ≤ 1048576) (hn : n ≤ 1048576) :
    Calls Try.prog 140 #[.slice a e.length c, .int .i64 (n : Int)] w fun r w' => r = .returned (.slice (some ⟨w.heap.size, 0, none⟩) n n) ∧ OwnInts w' w.heap.size (againD e n) ∧ Below w.heap.size w w' := by
  have hmk : ∀ w, (Instr.makeSlice 24 (.int .i64 (n : Int)) (.int .i64 (n : Int))).run Try.prog w = .ok (.slice (some ⟨w.heap.size, 0, none⟩) n n) (w.alloc (.cells (vals (List.replicate n 0)) 3)) := fun w => make_ints n (by omega) w
  obtain ⟨D, hD⟩ : ∃ D, D = againD e n := ⟨_, rfl⟩
  rw [← hD]
  by_cases h0 : e = []
  · have ED : Hid (D = List.replicate n 0) := by show _ = _; rw [hD, h0, againD_nil]
    subst h0
    clear hD
    simp only [List.length_nil]
    go_enter Try.func140, Try.ntmps140
    go_wp2
    go_ret
    refine ⟨rfl, ?_, bAlloc (Below.refl _ _) _⟩
    rw [ED.out]
    exact ownInts_new _ _
  · have ED : Hid (D = againTo e n n) := by show _ = _; rw [hD, againTo_all h0]
    have hl : 0 < e.length := by cases e with | nil => exact absurd rfl h0 | cons _ _ => simp
    have hne : ((e.length : Int) == 0) = false := by simp; exact h0
    have HI : Hid (Ints w a e) := h
    have HP : Hid (∀ k m, k % e.length = 0 → m ≤ e.length → k + m ≤ n → paste (againTo e n k) k e m = againTo e n (k + m)) := fun k m a b c => paste_again a b c
    have HCP : Hid (∀ W g l k r dC, Below w.heap.size w W → OwnInts W g l → k + min e.length r ≤ l.length → (Builtin.copy_ #[24, 24] 3 #[.slice (some ⟨g, k, none⟩) r dC, .slice a e.length c]).run Try.prog W = .ok (.int .i64 ((min e.length r : Nat) : Int)) (W.setRow g (vals (paste l k e (min e.length r))))) := fun W g l k r dC hb ho hf => copy_paste ho (HI.out.keep hb) hf _ dC c
    clear hD h0 h he
    generalize e.length = p at *
    go_enter Try.func140, Try.ntmps140
    go_wp2
    go_loopw [6] (fun i w' => ∃ (k r : Nat) (A : Option Addr), k + r = n ∧ i = .slice A r r ∧ (0 < r → A = some ⟨w.heap.size, k, none⟩ ∧ k % p = 0) ∧ OwnInts w' w.heap.size (againTo e n k) ∧ Below w.heap.size w w') (fun i _ => match i with | .slice _ r _ => r | _ => 0)
    case atStart => exact ⟨0, n, _, by omega, rfl, fun _ => ⟨rfl, by simp⟩, by rw [againTo_zero]; exact ownInts_new _ _, bAlloc (Below.refl _ _) _⟩
    case round =>
      obtain ⟨k, r, A, hkr, rfl, hA, hO, hb⟩ := hrel
      have HK : Hid (k + r = n) := hkr
      have HO : Hid (OwnInts wr w.heap.size (againTo e n k)) := hO
      have HB : Hid (Below w.heap.size w wr) := hb
      by_cases hlt : (0 : Int) < (r : Int)
      · obtain ⟨rfl, hk⟩ := hA (by omega)
        have hcp := HCP.out wr w.heap.size (againTo e n k) k r r hb hO (by rw [againTo_length]; omega)
        rw [HP.out k (min p r) hk (by omega) (by omega)] at hcp
        have HM : Hid (min p r ≤ r ∧ 0 < min p r ∧ (0 < r - min p r → (k + min p r) % p = 0)) := ⟨by omega, by omega, fun h => by
          have : min p r = p := by omega
          rw [this, Nat.add_mod_right, hk]⟩
        generalize min p r = m at *
        have hsl := fun W => run_from (a := some ⟨w.heap.size, k, none⟩) (n := r) (c := r) (M := m) HM.out.1 (Nat.le_refl _) W
        have HO' : Hid (OwnInts (wr.setRow w.heap.size (vals (againTo e n (k + m)))) w.heap.size (againTo e n (k + m))) := hO.setRow _
        have HB' : Hid (Below w.heap.size w (wr.setRow w.heap.size (vals (againTo e n (k + m))))) := below_setRow hb (Nat.le_refl _) _
        clear hA hO hb hkr hk
        generalize hW : wr.setRow w.heap.size (vals (againTo e n (k + m))) = W at *
        clear hW
        go_wp2
        go_roundw
        case rel => exact ⟨k + m, r - m, _, by have := HK.out; have := HM.out; omega, rfl, fun h => ⟨by rw [if_neg (by omega)]; first | done | simp [Addr.add], HM.out.2.2 h⟩, HO'.out, HB'.out⟩
        case measure => have := HM.out; show r - m < r; omega
      · obtain rfl : r = 0 := by omega
        obtain rfl : k = n := by omega
        clear hA hO hb hkr
        go_wp2
        go_ret
        exact ⟨rfl, by rw [ED.out]; exact HO.out, HB.out⟩
/-- belowNought. -/
theorem belowN_impl (x : Int) (w : World) : Calls Try.prog 139 #[.int .i64 x] w fun r w' => r = .returned (.bool (decide (x < 0))) ∧ w' = w := by
  by_cases h : x < 0
  all_goals
    go_enter Try.func139, Try.ntmps139
    go_wp2
    go_ret
    exact ⟨by simp [h], rfl⟩
set_option maxRecDepth 20000 in
set_option maxHeartbeats 2000000 in
/-- slices.IndexFunc over belowNought: where there is one below nought. -/
theorem indexBelow_impl {l : List Int} {a : Option Addr} {w : World} {c : Nat} (h : Ints w a l) (hl : l.length ≤ 1048576) :
    Calls Try.prog 141 #[.slice a l.length c, .func (.func 139) #[] #[]] w fun r w' => ∃ x : Int, r = .returned (.int .i64 x) ∧ (decide (0 ≤ x) = l.any fun x => decide (x < 0)) ∧ w' = w := by
  have HI : Hid (Ints w a l) := h
  have hE : ∀ (args : Array Value) (w : World), (callFunc 139 args).run Try.prog w = .ok (.enter 139 args) w := enters_of Try.func139 (by kernel_rfl) rfl
  clear h
  go_enter Try.func141, Try.ntmps141
  go_wp2
  go_loopw [8] (fun i w' => ∃ k : Nat, k ≤ l.length ∧ i = .int .i64 (k : Int) ∧ ((l.take k).any fun x => decide (x < 0)) = false ∧ w' = w) (fun i _ => l.length - (intOf i).toNat)
  case atStart => exact ⟨0, by omega, rfl, by simp, rfl⟩
  case round =>
    obtain ⟨k, hk, rfl, ht, rfl⟩ := hrel
    have HT : Hid (((l.take k).any fun x => decide (x < 0)) = false) := ht
    clear ht
    by_cases hlt : (k : Int) < (l.length : Int)
    · have L : k < l.length := by omega
      obtain ⟨b1, o1, rfl, _, c1⟩ := HI.out.at L
      have Q : Hid (((l.take (k + 1)).any fun x => decide (x < 0)) = (((l.take k).any fun x => decide (x < 0)) || decide (l.getD k 0 < 0))) := by show _ = _; rw [take_snoc L]; simp
      have QB : Hid (l.getD k 0 < 0 → (l.any fun x => decide (x < 0)) = true) := fun h => by
        rw [List.any_eq_true]
        exact ⟨l.getD k 0, by simp [L], by simpa using h⟩
      clear L
      generalize l.getD k 0 = x at c1 Q QB
      by_cases hx : x < 0
      · have QB' : Hid ((l.any fun x => decide (x < 0)) = true) := QB.out hx
        clear Q QB
        have hd : decide (x < 0) = true := by simp [hx]
        go_wp2_with (go_at_fn 139; refine (belowN_impl x _).mono ?_; rintro r w2 ⟨rfl, hw⟩; subst w2; rw [hd])
        go_ret
        exact ⟨_, rfl, by rw [QB'.out]; simp, rfl⟩
      · have HT' : Hid (((l.take (k + 1)).any fun x => decide (x < 0)) = false) := by show _ = _; rw [Q.out, HT.out]; simpa using hx
        clear Q QB
        have hd : decide (x < 0) = false := by simpa using hx
        go_wp2_with (go_at_fn 139; refine (belowN_impl x _).mono ?_; rintro r w2 ⟨rfl, hw⟩; subst w2; rw [hd])
        go_roundw
        case rel => exact ⟨k + 1, by omega, by go_num, HT'.out, by first | trivial | rfl⟩
        case measure => simp [intOf]; omega
    · have HV : Hid ((l.any fun x => decide (x < 0)) = false) := by
        have h := HT.out
        show _ = _
        rw [List.take_of_length_le (by omega)] at h
        exact h
      go_wp2
      go_ret
      exact ⟨_, rfl, by rw [HV.out]; rfl, rfl⟩
set_option maxRecDepth 20000 in
set_option maxHeartbeats 2000000 in
/-- slices.ContainsFunc over belowNought. -/
theorem containsBelow_impl {l : List Int} {a : Option Addr} {w : World} {c : Nat} (h : Ints w a l) (hl : l.length ≤ 1048576) :
    Calls Try.prog 138 #[.slice a l.length c, .func (.func 139) #[] #[]] w fun r w' => r = .returned (.bool (l.any fun x => decide (x < 0))) ∧ w' = w := by
  have HC : Hid (Calls Try.prog 141 #[.slice a l.length c, .func (.func 139) #[] #[]] w fun r w' => ∃ x : Int, r = .returned (.int .i64 x) ∧ (decide (0 ≤ x) = l.any fun x => decide (x < 0)) ∧ w' = w) := indexBelow_impl h hl
  clear h
  generalize (l.any fun x => decide (x < 0)) = q at *
  go_enter Try.func138, Try.ntmps138
  go_wp2_with fail
  refine HC.out.mono ?_
  rintro r w1 ⟨x, rfl, hx, rfl⟩
  clear HC
  by_cases h0 : (0 : Int) ≤ x
  · have E : Hid (q = true) := by show _ = _; rw [← hx]; simpa using h0
    clear hx
    go_wp2
    go_ret
    exact ⟨by rw [E.out]; simp [h0], rfl⟩
  · have E : Hid (q = false) := by show _ = _; rw [← hx]; simpa using h0
    clear hx
    go_wp2
    go_ret
    exact ⟨by rw [E.out]; simp [h0], rfl⟩
end Go.Proofs.Ytcpgdhffemecbab
namespace Go.Proofs.Ytcpgdhffemecbab
open Go.RowKit
set_option linter.unusedVariables false
set_option linter.unusedSimpArgs false
theorem run_between {a : Option Addr} {n c M N : Nat} (hM : M ≤ N) (hc : N ≤ c) (W : World) : (Instr.slice 24 (.slice a n c) (some (.int .i64 (M : Int))) (some (.int .i64 (N : Int))) none).run Try.prog W = .ok (.slice (if c - M = 0 then a else a.map (·.add (M * 1))) (N - M) (c - M)) W := by
  have hs : (sizeOf 3).run Try.prog W = .ok 1 W := by kernel_rfl
  have he : Try.prog.elem 24 = 3 := by kernel_rfl
  rw [run_slice_lh (P := Try.prog) (w := W) 24 a n c (by rw [he]; exact Try.underlying24) .i64 .i64 (M : Int) (N : Int) (by omega) (by omega) (by omega), he, hs]
  have e : (c = M) = (c - M = 0) := by apply propext; omega
  simp [Result.andThen, sliced, e]
theorem ints_cell5 {w : World} {b o : Nat} {l : List Int} {k : Nat} (h : Ints w (some ⟨b, o, none⟩) l) (hk : k < l.length) : w.cell? ⟨b, o + k, none⟩ = some (.int .i64 (l.getD k 0)) := by
  obtain ⟨b', o', e, hb, hc⟩ := h.at hk
  cases e
  exact hc
theorem ints_from5 {w : World} {b : Option Addr} {d : List Int} {e : Nat} (C : Nat) (h : Ints w b d) (he : d.length ≤ e) : Ints w (if e - C = 0 then b else b.map (·.add (C * 1))) (d.drop C) := by
  by_cases h0 : d.length ≤ C
  · exact .inl (List.drop_of_length_le h0)
  · rw [if_neg (by omega)]
    obtain ⟨b', o', rfl, _, _⟩ := h.at (k := 0) (by omega)
    have := ints_tail C h
    by_cases hC0 : C = 0 <;> simpa [Addr.add, hC0] using this
theorem OwnInts.keep5 {w w' : World} {g : Nat} {l : List Int} (h : OwnInts w g l) (hb : Below w.heap.size w w') : OwnInts w' g l := by
  unfold OwnInts
  rw [hb.block _ (lt_of_heapA h)]
  exact h
theorem measure5 {k n : Nat} (h : wrap64 ((k : Int) + 1) = (k : Int) + 1) (hk : k < n) : n - (wrap64 ((k : Int) + 1)).toNat < n - ((k : Int)).toNat := by
  rw [h]; omega
theorem wrap5 {a : Int} (h1 : -1000000000000000 ≤ a) (h2 : a ≤ 1000000000000000) : wrap64 a = a := by unfold wrap64; omega
/-- A row is copied to its place. -/
theorem copy_row5 {w : World} {g m A B C L e : Nat} {l d : List Int} {b : Option Addr} (ho : OwnInts w g l) (hl : l.length = m) (hi : Ints w b d) (he : d.length ≤ e) (hA : A + L = B) (hB : B ≤ m) (hC : C + L ≤ d.length) (ty : TypeId) :
    (Builtin.copy_ #[24, 24] ty #[.slice (if m - A = 0 then some ⟨g, 0, none⟩ else (some (⟨g, 0, none⟩ : Addr)).map (·.add (A * 1))) (B - A) (m - A), .slice (if e - C = 0 then b else b.map (·.add (C * 1))) (d.length - C) (e - C)]).run Try.prog w = .ok (.int .i64 (L : Int)) (w.setRow g (vals (paste l A (d.drop C) L))) := by
  have hi' := ints_from5 (e := e) C hi he
  have hL : B - A = L := by omega
  have hd : (d.drop C).length = d.length - C := by simp
  rw [hL]
  by_cases h0 : m - A = 0
  · obtain rfl : L = 0 := by omega
    rw [if_pos h0, paste_zero, setRow_self w g (vals l) _ _ ho]
    exact run_copy_none (P := Try.prog) _ 24 24 ty 3 _ _ _ _ _ _ Try.underlying24 int_size (Nat.min_zero _)
  · rw [if_neg h0]
    have q := copy_paste (k := A) (n := L) (l := l) ho hi' (by rw [hd]; omega) ty (m - A) (e - C)
    rw [hd, Nat.min_eq_right (by omega)] at q
    have e1 : (some (⟨g, 0, none⟩ : Addr)).map (·.add (A * 1)) = some ⟨g, A, none⟩ := by
      by_cases hA0 : A = 0 <;> simp [Addr.add, hA0]
    rw [e1]
    exact q
set_option maxRecDepth 20000 in
set_option maxHeartbeats 4000000 in
/-- chosenRows. -/
theorem chosen_impl {s d : List Int} {w : World} {v p : Value} {f n : Nat} {φ : Nat → Int} {z : Int} (hzn : z = (n : Int)) (hE : ∀ (args : Array Value) (w : World), (callFunc f args).run Try.prog w = .ok (.enter f args) w) (h : ArrI w v s d) (ho : arrOk s d = true) (hs : s ≠ []) (hz : 0 ≤ sizeV ((n : Int) :: s.drop 1))
    (hV : ∀ (W : World) (k : Nat), k < n → Below w.heap.size w W → Calls Try.prog f #[.int .i64 (k : Int), p] W fun r W' => r = .returned (.int .i64 (φ k)) ∧ Below W.heap.size W W') :
    Calls Try.prog 122 #[v, .int .i64 z, .func (.func f) #[] #[p]] w fun r w' => ∃ v', r = .returned v' ∧ Arr w.heap.size w'.heap.size w' v' ((n : Int) :: s.drop 1) (chosenD s d φ n) ∧ Below w.heap.size w w' := by
  obtain ⟨a, c, b, e, rfl, i1, i2, g1, g2⟩ := h
  have hsl : s.length ≤ 1048576 := by have := (sizeV_ok (arrOk_shape ho)).1; omega
  have HOR : Hid (∀ W, Below w.heap.size w W → Calls Try.prog 136 #[.slice a s.length c, .int .i64 z] W fun r w' => ∃ a' c', r = .returned (.slice a' ((n : Int) :: s.drop 1).length c') ∧ Piece W.heap.size w'.heap.size w' (.slice a' ((n : Int) :: s.drop 1).length c') ((n : Int) :: s.drop 1) ∧ Below W.heap.size W w') := fun W hb => by rw [hzn]; exact ofRows_impl (n : Int) (IntsI.keep ⟨a, c, rfl, g1, i1⟩ hb) hsl hs
  have HV : Hid (∀ (W : World) (k : Nat), k < n → Below w.heap.size w W → Calls Try.prog f #[.int .i64 (k : Int), p] W fun r W' => r = .returned (.int .i64 (φ k)) ∧ Below W.heap.size W W') := hV
  have hm : sizeV ((n : Int) :: s.drop 1) = ((n * rowN s : Nat) : Int) := by
    by_cases h0 : (n : Int) = 0
    · have : n = 0 := by omega
      subst this
      rw [Nat.zero_mul]
      exact zero5 hz
    · obtain ⟨p0, p1, p2⟩ := tail5 hz (by omega)
      rw [← p1, Int.natCast_mul]
      unfold rowN
      rw [Int.toNat_of_nonneg p0]
  have hz3 := sizeV_bd ((n : Int) :: s.drop 1)
  have hn3 := dim5 hz
  have HSZ : Hid (∀ W a' c', Ints W a' ((n : Int) :: s.drop 1) → Calls Try.prog 76 #[.slice a' ((n : Int) :: s.drop 1).length c'] W fun r w' => r = .returned (.int .i64 ((n * rowN s : Nat) : Int)) ∧ Below W.heap.size W w') := fun W a' c' h => by
    have q := size_impl c' h
    rw [hm] at q
    exact q
  have HTO0 : Hid (chosenTo s d φ n 0 = List.replicate (n * rowN s) 0) := chosenTo_zero s d φ n
  have HTOA : Hid (chosenTo s d φ n n = chosenD s d φ n) := chosenTo_all s d φ n
  have HTOL : Hid (∀ k, k ≤ n → (chosenTo s d φ n k).length = n * rowN s) := fun k hk => chosenTo_length ho hs φ hk
  have HTON : Hid (∀ k, k < n → ¬ (0 ≤ φ k ∧ φ k < s.getD 0 0) → chosenTo s d φ n k = chosenTo s d φ n (k + 1)) := fun k hk h => chosenTo_no hk h
  have HTOY : Hid (∀ k, k < n → 0 ≤ φ k ∧ φ k < s.getD 0 0 → paste (chosenTo s d φ n k) (k * rowN s) (d.drop ((φ k).toNat * rowN s)) (rowN s) = chosenTo s d φ n (k + 1)) := fun k hk h => chosenTo_yes ho hs hk h
  have HRW : Hid (∀ j : Int, 0 ≤ j → j < s.getD 0 0 → j.toNat * rowN s + rowN s ≤ d.length ∧ j ≤ 300) := fun j h0 h1 => by
    have q := rows5 ho hs
    obtain ⟨r1, r2⟩ := rowsN5 ho
    have : (j.toNat + 1) * rowN s ≤ rowsN s * rowN s := Nat.mul_le_mul_right _ (by omega)
    rw [Nat.succ_mul] at this
    omega
  have HD3 : Hid (d.length ≤ 300) := arrOk_len ho
  obtain ⟨ab, ao, rfl, _, _⟩ := i1.at (k := 0) (List.length_pos_iff.2 hs)
  have HN0 : Hid (∀ W, Below w.heap.size w W → W.cell? ⟨ab, ao, none⟩ = some (.int .i64 (s.getD 0 0))) := fun W hb => ints_cell5 (i1.keep hb) (List.length_pos_iff.2 hs)
  have HI2 : Hid (Ints w b d) := i2
  have HG2 : Hid (d.length ≤ e) := g2
  have hsp : 0 < s.length := List.length_pos_iff.2 hs
  have hmk : ∀ w, (Instr.makeSlice 24 (.int .i64 ((n * rowN s : Nat) : Int)) (.int .i64 ((n * rowN s : Nat) : Int))).run Try.prog w = .ok (.slice (some ⟨w.heap.size, 0, none⟩) (n * rowN s) (n * rowN s)) (w.alloc (.cells (vals (List.replicate (n * rowN s) 0)) 3)) := fun w => make_ints (n * rowN s) (by omega) w
  have HM : Hid (n * rowN s ≤ 300 ∧ n ≤ 300) := ⟨by omega, by omega⟩
  have HML : Hid (∀ k, k < n → (k + 1) * rowN s ≤ n * rowN s) := fun k hk => Nat.mul_le_mul_right _ hk
  have HQ : Hid (0 < n → Int.tdiv ((n * rowN s : Nat) : Int) z = (rowN s : Int)) := fun h => by
    rw [hzn, Int.natCast_mul, Int.mul_tdiv_cancel_left _ (by omega)]
  have HW : Hid (∀ k : Nat, k < n → wrap64 ((k : Int) + 1) = (k : Int) + 1 ∧ wrap64 ((k : Int) * (rowN s : Int)) = ((k * rowN s : Nat) : Int) ∧ wrap64 (((k : Int) + 1) * (rowN s : Int)) = (((k + 1) * rowN s : Nat) : Int)) := fun k hk => by
    have h1 : k * rowN s + rowN s = (k + 1) * rowN s := (Nat.succ_mul k _).symm
    have h2 : (k + 1) * rowN s ≤ n * rowN s := Nat.mul_le_mul_right _ hk
    refine ⟨wrap5 (by omega) (by omega), ?_, ?_⟩
    · rw [← Int.natCast_mul]; exact wrap5 (by omega) (by omega)
    · have : ((k : Int) + 1) * (rowN s : Int) = (((k + 1) * rowN s : Nat) : Int) := by rw [Int.natCast_mul]; rfl
      rw [this]; exact wrap5 (by omega) (by omega)
  have HWJ : Hid (∀ j : Int, 0 ≤ j → j < s.getD 0 0 → wrap64 (j * (rowN s : Int)) = ((j.toNat * rowN s : Nat) : Int)) := fun j h0 h1 => by
    obtain ⟨q1, q2⟩ := HRW.out j h0 h1
    have := HD3.out
    have : j * (rowN s : Int) = ((j.toNat * rowN s : Nat) : Int) := by rw [Int.natCast_mul, Int.toNat_of_nonneg h0]
    rw [this]; exact wrap5 (by omega) (by omega)
  have HWL : Hid (0 < n → wrap64 (rowN s : Int) = (rowN s : Int)) := fun h0 => by
    have h2 : 1 * rowN s ≤ n * rowN s := Nat.mul_le_mul_right _ h0
    exact wrap5 (by omega) (by omega)
  have HCY : Hid (∀ (k g : Nat) (j : Int) (W : World), k < n → 0 ≤ j → j < s.getD 0 0 → φ k = j → OwnInts W g (chosenTo s d φ n k) → Ints W b d → (Builtin.copy_ #[24, 24] 3 #[.slice (if n * rowN s - k * rowN s = 0 then some ⟨g, 0, none⟩ else (some (⟨g, 0, none⟩ : Addr)).map (·.add (k * rowN s * 1))) ((k + 1) * rowN s - k * rowN s) (n * rowN s - k * rowN s), .slice (if e - j.toNat * rowN s = 0 then b else b.map (·.add (j.toNat * rowN s * 1))) (d.length - j.toNat * rowN s) (e - j.toNat * rowN s)]).run Try.prog W = .ok (.int .i64 (rowN s : Int)) (W.setRow g (vals (chosenTo s d φ n (k + 1))))) := fun k g j W hk h0 h1 hj ho' hi => by
    have q := copy_row5 ho' (HTOL.out k (Nat.le_of_lt hk)) hi g2 (Nat.succ_mul k (rowN s)).symm (HML.out k hk) (HRW.out j h0 h1).1 3
    rw [← hj, HTOY.out k hk (by rw [hj]; exact ⟨h0, h1⟩), hj] at q
    exact q
  have HSA : Hid (∀ (k g : Nat) (W : World), k < n → (Instr.slice 24 (.slice (some ⟨g, 0, none⟩) (n * rowN s) (n * rowN s)) (some (.int .i64 ((k * rowN s : Nat) : Int))) (some (.int .i64 (((k + 1) * rowN s : Nat) : Int))) none).run Try.prog W = .ok (.slice (if n * rowN s - k * rowN s = 0 then some ⟨g, 0, none⟩ else (some (⟨g, 0, none⟩ : Addr)).map (·.add (k * rowN s * 1))) ((k + 1) * rowN s - k * rowN s) (n * rowN s - k * rowN s)) W) := fun k g W hk => run_between (Nat.mul_le_mul_right _ (Nat.le_succ k)) (HML.out k hk) W
  have HSB : Hid (∀ (j : Int) (W : World), 0 ≤ j → j < s.getD 0 0 → (Instr.slice 24 (.slice b d.length e) (some (.int .i64 ((j.toNat * rowN s : Nat) : Int))) none none).run Try.prog W = .ok (.slice (if e - j.toNat * rowN s = 0 then b else b.map (·.add (j.toNat * rowN s * 1))) (d.length - j.toNat * rowN s) (e - j.toNat * rowN s)) W) := fun j W h0 h1 => run_from (by have := (HRW.out j h0 h1).1; omega) g2 W
  obtain ⟨S, hS⟩ : ∃ S, S = (n : Int) :: s.drop 1 := ⟨_, rfl⟩
  obtain ⟨D, hD⟩ : ∃ D, D = chosenD s d φ n := ⟨_, rfl⟩
  rw [← hS] at HOR HSZ ⊢
  rw [← hD] at HTOA ⊢
  have HZ : Hid (z = (n : Int)) := hzn
  clear hzn hS hD hV ho hz hm i1 i2 g1 g2 hsl hs hz3 hn3 HTOY HRW HML HD3
  generalize rowN s = L at *
  generalize s.getD 0 0 = N at *
  generalize hN : n * L = m at *
  have HN : Hid (n * L = m) := hN
  clear hN
  generalize hTO : chosenTo s d φ n = TO at *
  clear hTO
  go_enter Try.func122, Try.ntmps122
  go_wp2_with fail
  refine (HOR.out _ (bAlloc (bAlloc (Below.refl _ _) _) _)).mono ?_
  rintro r w1 ⟨a1, c1, rfl, hp, hb⟩
  have HB1 : Hid (Below w.heap.size w w1) := bTrans (bAlloc (bAlloc (Below.refl _ _) _) _) hb
  have X1 : Hid (Box w1 w.heap.size (.slice (some ⟨ab, ao, none⟩) s.length c) (.slice b d.length e) 26) := ((box_new w _ _ _).keep (bAlloc (Below.refl _ _) _)).keep hb
  have R1 : Hid (Box w1 (w.heap.size + 1) (.slice none 0 0) (.slice none 0 0) 26) := (box_new2 w _ _ _ _).keep hb
  have P1 : Hid (Piece (w.heap.size + 2) w1.heap.size w1 (.slice a1 S.length c1) S) := by show Piece _ _ _ _ _; simpa using hp
  have I1 : Hid (Ints w1 a1 S) := by
    obtain ⟨q1, q2, q3, q4⟩ := hp.ints
    cases q3
    exact q4
  have LT : Hid (w.heap.size + 2 ≤ w1.heap.size) := by have := hb.size; show _ ≤ _; simpa using this
  clear hp hb
  go_wp2_with fail
  refine (HSZ.out _ _ _ I1.out).mono ?_
  rintro r w2 ⟨rfl, hb⟩
  have HB2 : Hid (Below w.heap.size w w2) := bTrans HB1.out hb
  have X2 : Hid (Box w2 w.heap.size (.slice (some ⟨ab, ao, none⟩) s.length c) (.slice b d.length e) 26) := X1.out.keep hb
  have R2 : Hid (Box w2 (w.heap.size + 1) (.slice none 0 0) (.slice none 0 0) 26) := R1.out.keep hb
  have P2 : Hid (Piece (w.heap.size + 2) w1.heap.size w2 (.slice a1 S.length c1) S) := P1.out.keep hb
  have LT2 : Hid (w1.heap.size ≤ w2.heap.size) := hb.size
  clear hb X1 R1 P1 I1 HB1 HOR HSZ
  go_wp2
  generalize hW : w2.alloc (.cells (vals (List.replicate m 0)) 3) = W
  have HBW : Hid (Below w2.heap.size w2 W) := by rw [← hW]; exact bAlloc (Below.refl _ _) _
  have HOW : Hid (OwnInts W w2.heap.size (TO 0)) := by rw [← hW, HTO0.out]; exact ownInts_new _ _
  clear hW hmk
  go_loopw [20] (fun i w' => ∃ k : Nat, k ≤ n ∧ i = .int .i64 (k : Int) ∧ OwnInts w' w2.heap.size (TO k) ∧ Below w2.heap.size w2 w') (fun i _ => n - (intOf i).toNat)
  case atStart => exact ⟨0, by omega, rfl, HOW.out, HBW.out⟩
  case round =>
    obtain ⟨k, hk, rfl, hO, hb⟩ := hrel
    have HO : Hid (OwnInts wr w2.heap.size (TO k)) := hO
    have HB : Hid (Below w2.heap.size w2 wr) := hb
    clear hO hb HOW HBW
    have hzn := HZ.out
    by_cases hlt : (k : Int) < z
    · have HLT : Hid (k < n) := by show _ < _; omega
      have hq := HQ.out (by omega)
      have hn0 : z ≠ 0 := by omega
      have HVK : Hid (Calls Try.prog f #[.int .i64 (k : Int), p] wr fun r W' => r = .returned (.int .i64 (φ k)) ∧ Below wr.heap.size wr W') := HV.out wr k HLT.out (bTrans HB2.out HB.out)
      have TN : Hid (¬ (0 ≤ φ k ∧ φ k < N) → TO k = TO (k + 1)) := HTON.out k HLT.out
      clear hzn
      have hwL := HWL.out (Nat.lt_of_le_of_lt (Nat.zero_le _) HLT.out)
      have hz3 : z ≤ 300 := by have := HZ.out; have := HM.out; omega
      have HCK := HCY.out k w2.heap.size (φ k)
      generalize φ k = j at *
      by_cases hj : 0 ≤ j
      · by_cases hj2 : j < N
        · have HCP : Hid (∀ W, OwnInts W w2.heap.size (TO k) → Ints W b d → (Builtin.copy_ #[24, 24] 3 #[.slice (if m - k * L = 0 then some ⟨w2.heap.size, 0, none⟩ else (some (⟨w2.heap.size, 0, none⟩ : Addr)).map (·.add (k * L * 1))) ((k + 1) * L - k * L) (m - k * L), .slice (if e - j.toNat * L = 0 then b else b.map (·.add (j.toNat * L * 1))) (d.length - j.toNat * L) (e - j.toNat * L)]).run Try.prog W = .ok (.int .i64 (L : Int)) (W.setRow w2.heap.size (vals (TO (k + 1))))) := fun W h1 h2 => HCK W HLT.out hj hj2 rfl h1 h2
          have hs1 := fun W => HSA.out k w2.heap.size W HLT.out
          have hs2 := fun W => HSB.out j W hj hj2
          obtain ⟨hk1, w1', w2'⟩ := HW.out k HLT.out
          have HZ3 : Hid (z ≤ 300 ∧ (k : Int) < z) := ⟨hz3, hlt⟩
          have HW4 : Hid (wrap64 ((k : Int) + 1) = (k : Int) + 1 ∧ wrap64 ((k : Int) * (L : Int)) = ((k * L : Nat) : Int) ∧ wrap64 (((k : Int) + 1) * (L : Int)) = (((k + 1) * L : Nat) : Int)) := ⟨hk1, w1', w2'⟩
          clear hk1 w1' w2'
          have HW3 : Hid (wrap64 (j * (L : Int)) = ((j.toNat * L : Nat) : Int)) := HWJ.out j hj hj2
          clear TN HCK HSA HSB HW HWJ HCY HTON HTOL
          generalize (if m - k * L = 0 then some ⟨w2.heap.size, 0, none⟩ else (some (⟨w2.heap.size, 0, none⟩ : Addr)).map (·.add (k * L * 1))) = A1 at *
          generalize (if e - j.toNat * L = 0 then b else b.map (·.add (j.toNat * L * 1))) = A2 at *
          generalize (k + 1) * L - k * L = n1 at *
          generalize m - k * L = n2 at *
          generalize d.length - j.toNat * L = n3 at *
          generalize e - j.toNat * L = n4 at *
          generalize (k + 1) * L = n5 at *
          generalize k * L = n6 at *
          generalize j.toNat * L = n7 at *
          go_wp2_with (go_at_fn f; refine HVK.out.mono ?_; rintro r w3 ⟨rfl, hb⟩; have HB3 : Hid (Below w2.heap.size w2 w3) := bTrans HB.out hb; have HO3 : Hid (OwnInts w3 w2.heap.size (TO k)) := (HO.out.keep5 hb); have x0 := (X2.out.keep HB3.out).c0; have x1 := (X2.out.keep HB3.out).c1; have xn := HN0.out _ (bTrans HB2.out HB3.out); have hcp := HCP.out w3.drew (HO3.out.keep5 (Below.refl w3.heap.size w3).drew) (HI2.out.keep (bTrans HB2.out HB3.out.drew)); clear hb)
          have HO4 : Hid (OwnInts (w3.drew.setRow w2.heap.size (vals (TO (k + 1)))) w2.heap.size (TO (k + 1))) := (HO3.out.keep5 (Below.refl w3.heap.size w3).drew).setRow _
          have HB4 : Hid (Below w2.heap.size w2 (w3.drew.setRow w2.heap.size (vals (TO (k + 1))))) := below_setRow HB3.out.drew (Nat.le_refl _) _
          generalize hW : w3.drew.setRow w2.heap.size (vals (TO (k + 1))) = W4 at *
          clear hW
          obtain ⟨hk1, w1', w2'⟩ := HW4.out
          have w3' := HW3.out
          clear hz3 hlt
          go_region
          obtain ⟨hz3, hlt⟩ := HZ3.out
          clear hk1 w1' w2' w3' hs1 hs2 hcp x0 x1 xn
          go_wp2
          go_roundw
          case rel => exact ⟨k + 1, HLT.out, by go_num, HO4.out, HB4.out⟩
          case measure => simp [intOf]; have := HLT.out; omega
        · have HT' : Hid (TO k = TO (k + 1)) := TN.out (fun q => hj2 q.2)
          clear TN HCK
          go_wp2_with (go_at_fn f; refine HVK.out.mono ?_; rintro r w3 ⟨rfl, hb⟩; have HB3 : Hid (Below w2.heap.size w2 w3) := bTrans HB.out hb; have HO3 : Hid (OwnInts w3 w2.heap.size (TO k)) := (HO.out.keep5 hb); have x0 := (X2.out.keep HB3.out).c0; have xn := HN0.out _ (bTrans HB2.out HB3.out); clear hb)
          go_roundw
          case rel => exact ⟨k + 1, HLT.out, by go_num, by rw [← HT'.out]; exact HO3.out, HB3.out⟩
          case measure => simp [intOf]; have := HLT.out; omega
      · have HT' : Hid (TO k = TO (k + 1)) := TN.out (fun q => hj q.1)
        clear TN HCK
        go_wp2_with (go_at_fn f; refine HVK.out.mono ?_; rintro r w3 ⟨rfl, hb⟩; have HB3 : Hid (Below w2.heap.size w2 w3) := bTrans HB.out hb; have HO3 : Hid (OwnInts w3 w2.heap.size (TO k)) := (HO.out.keep5 hb); clear hb)
        go_roundw
        case rel => exact ⟨k + 1, HLT.out, by go_num, by rw [← HT'.out]; exact HO3.out, HB3.out⟩
        case measure => simp [intOf]; have := HLT.out; omega
    · obtain rfl : k = n := by omega
      clear hzn
      have LD : Hid (D.length = m) := by show _ = _; rw [← HTOA.out]; exact HTOL.out k (Nat.le_refl _)
      have R3 : Hid (Box wr (w.heap.size + 1) (.slice none 0 0) (.slice none 0 0) 26) := R2.out.keep HB.out
      have P3 : Hid (Piece (w.heap.size + 2) w1.heap.size wr (.slice a1 S.length c1) S) := P2.out.keep HB.out
      have PD : Hid (Piece w2.heap.size (w2.heap.size + 1) wr (.slice (some ⟨w2.heap.size, 0, none⟩) m m) D) := by
        have q := OwnInts.piece HO.out (B := w2.heap.size) (C := w2.heap.size + 1) (Nat.le_refl _) (by omega) m (by rw [HTOL.out k (Nat.le_refl _)]; exact Nat.le_refl _)
        rw [HTOL.out k (Nat.le_refl _), HTOA.out] at q
        exact q
      have LW : Hid (w2.heap.size + 1 ≤ wr.heap.size) := lt_of_heapA HO.out
      have HB5 : Hid (Below w.heap.size w wr) := bTrans HB2.out HB.out
      have y0 := R3.out.c0
      have y1 := R3.out.c1
      have f0 : wr.frozen? ⟨w.heap.size + 1, 0, none⟩ = false := free_at R3.out 0
      have f1 : wr.frozen? ⟨w.heap.size + 1, 1, none⟩ = false := free_at R3.out 1
      have HR : Hid (((wr.setCell ⟨w.heap.size + 1, 0, none⟩ (.slice a1 S.length c1)).setCell ⟨w.heap.size + 1, 1, none⟩ (.slice (some ⟨w2.heap.size, 0, none⟩) m m)).heap[w.heap.size + 1]? = some (.cells #[.slice a1 S.length c1, .slice (some ⟨w2.heap.size, 0, none⟩) m m] 26 (0, 0))) := arr_stored R3.out
      go_wp2
      refine bodyPost_ret (v := .agg #[.slice a1 S.length c1, .slice (some ⟨w2.heap.size, 0, none⟩) m m]) (results_arr rfl _ _ (w.heap.size + 1) _ _ rfl HR.out) rfl ?_
      refine ⟨_, rfl, ?_, below_setCell (below_setCell HB5.out (by omega) _ _) (by omega) _ _⟩
      have L1 := LT.out
      have L2 := LT2.out
      have L3 := LW.out
      have p1' := (P3.out.win (win_setCell wr (w.heap.size + 1) 0 (.slice a1 S.length c1)) (.inr (by omega))).win (win_setCell _ (w.heap.size + 1) 1 (.slice (some ⟨w2.heap.size, 0, none⟩) m m)) (.inr (by omega))
      have p2' := (PD.out.win (win_setCell wr (w.heap.size + 1) 0 (.slice a1 S.length c1)) (.inr (by omega))).win (win_setCell _ (w.heap.size + 1) 1 (.slice (some ⟨w2.heap.size, 0, none⟩) m m)) (.inr (by omega))
      exact ⟨_, _, rfl, p1'.mono (by omega) (by simp only [size_setCell]; omega), p2'.mono (by omega) (by simp only [size_setCell]; omega), p1'.apart p2' (.inl (by omega))⟩
set_option maxRecDepth 20000 in
set_option maxHeartbeats 4000000 in
/-- chosenRows. -/
theorem chosen2_impl {s d : List Int} {w : World} {v p q : Value} {f n : Nat} {φ : Nat → Int} {z : Int} (hzn : z = (n : Int)) (hE : ∀ (args : Array Value) (w : World), (callFunc f args).run Try.prog w = .ok (.enter f args) w) (h : ArrI w v s d) (ho : arrOk s d = true) (hs : s ≠ []) (hz : 0 ≤ sizeV ((n : Int) :: s.drop 1))
    (hV : ∀ (W : World) (k : Nat), k < n → Below w.heap.size w W → Calls Try.prog f #[.int .i64 (k : Int), p, q] W fun r W' => r = .returned (.int .i64 (φ k)) ∧ Below W.heap.size W W') :
    Calls Try.prog 122 #[v, .int .i64 z, .func (.func f) #[] #[p, q]] w fun r w' => ∃ v', r = .returned v' ∧ Arr w.heap.size w'.heap.size w' v' ((n : Int) :: s.drop 1) (chosenD s d φ n) ∧ Below w.heap.size w w' := by
  obtain ⟨a, c, b, e, rfl, i1, i2, g1, g2⟩ := h
  have hsl : s.length ≤ 1048576 := by have := (sizeV_ok (arrOk_shape ho)).1; omega
  have HOR : Hid (∀ W, Below w.heap.size w W → Calls Try.prog 136 #[.slice a s.length c, .int .i64 z] W fun r w' => ∃ a' c', r = .returned (.slice a' ((n : Int) :: s.drop 1).length c') ∧ Piece W.heap.size w'.heap.size w' (.slice a' ((n : Int) :: s.drop 1).length c') ((n : Int) :: s.drop 1) ∧ Below W.heap.size W w') := fun W hb => by rw [hzn]; exact ofRows_impl (n : Int) (IntsI.keep ⟨a, c, rfl, g1, i1⟩ hb) hsl hs
  have HV : Hid (∀ (W : World) (k : Nat), k < n → Below w.heap.size w W → Calls Try.prog f #[.int .i64 (k : Int), p, q] W fun r W' => r = .returned (.int .i64 (φ k)) ∧ Below W.heap.size W W') := hV
  have hm : sizeV ((n : Int) :: s.drop 1) = ((n * rowN s : Nat) : Int) := by
    by_cases h0 : (n : Int) = 0
    · have : n = 0 := by omega
      subst this
      rw [Nat.zero_mul]
      exact zero5 hz
    · obtain ⟨p0, p1, p2⟩ := tail5 hz (by omega)
      rw [← p1, Int.natCast_mul]
      unfold rowN
      rw [Int.toNat_of_nonneg p0]
  have hz3 := sizeV_bd ((n : Int) :: s.drop 1)
  have hn3 := dim5 hz
  have HSZ : Hid (∀ W a' c', Ints W a' ((n : Int) :: s.drop 1) → Calls Try.prog 76 #[.slice a' ((n : Int) :: s.drop 1).length c'] W fun r w' => r = .returned (.int .i64 ((n * rowN s : Nat) : Int)) ∧ Below W.heap.size W w') := fun W a' c' h => by
    have q := size_impl c' h
    rw [hm] at q
    exact q
  have HTO0 : Hid (chosenTo s d φ n 0 = List.replicate (n * rowN s) 0) := chosenTo_zero s d φ n
  have HTOA : Hid (chosenTo s d φ n n = chosenD s d φ n) := chosenTo_all s d φ n
  have HTOL : Hid (∀ k, k ≤ n → (chosenTo s d φ n k).length = n * rowN s) := fun k hk => chosenTo_length ho hs φ hk
  have HTON : Hid (∀ k, k < n → ¬ (0 ≤ φ k ∧ φ k < s.getD 0 0) → chosenTo s d φ n k = chosenTo s d φ n (k + 1)) := fun k hk h => chosenTo_no hk h
  have HTOY : Hid (∀ k, k < n → 0 ≤ φ k ∧ φ k < s.getD 0 0 → paste (chosenTo s d φ n k) (k * rowN s) (d.drop ((φ k).toNat * rowN s)) (rowN s) = chosenTo s d φ n (k + 1)) := fun k hk h => chosenTo_yes ho hs hk h
  have HRW : Hid (∀ j : Int, 0 ≤ j → j < s.getD 0 0 → j.toNat * rowN s + rowN s ≤ d.length ∧ j ≤ 300) := fun j h0 h1 => by
    have q := rows5 ho hs
    obtain ⟨r1, r2⟩ := rowsN5 ho
    have : (j.toNat + 1) * rowN s ≤ rowsN s * rowN s := Nat.mul_le_mul_right _ (by omega)
    rw [Nat.succ_mul] at this
    omega
  have HD3 : Hid (d.length ≤ 300) := arrOk_len ho
  obtain ⟨ab, ao, rfl, _, _⟩ := i1.at (k := 0) (List.length_pos_iff.2 hs)
  have HN0 : Hid (∀ W, Below w.heap.size w W → W.cell? ⟨ab, ao, none⟩ = some (.int .i64 (s.getD 0 0))) := fun W hb => ints_cell5 (i1.keep hb) (List.length_pos_iff.2 hs)
  have HI2 : Hid (Ints w b d) := i2
  have HG2 : Hid (d.length ≤ e) := g2
  have hsp : 0 < s.length := List.length_pos_iff.2 hs
  have hmk : ∀ w, (Instr.makeSlice 24 (.int .i64 ((n * rowN s : Nat) : Int)) (.int .i64 ((n * rowN s : Nat) : Int))).run Try.prog w = .ok (.slice (some ⟨w.heap.size, 0, none⟩) (n * rowN s) (n * rowN s)) (w.alloc (.cells (vals (List.replicate (n * rowN s) 0)) 3)) := fun w => make_ints (n * rowN s) (by omega) w
  have HM : Hid (n * rowN s ≤ 300 ∧ n ≤ 300) := ⟨by omega, by omega⟩
  have HML : Hid (∀ k, k < n → (k + 1) * rowN s ≤ n * rowN s) := fun k hk => Nat.mul_le_mul_right _ hk
  have HQ : Hid (0 < n → Int.tdiv ((n * rowN s : Nat) : Int) z = (rowN s : Int)) := fun h => by
    rw [hzn, Int.natCast_mul, Int.mul_tdiv_cancel_left _ (by omega)]
  have HW : Hid (∀ k : Nat, k < n → wrap64 ((k : Int) + 1) = (k : Int) + 1 ∧ wrap64 ((k : Int) * (rowN s : Int)) = ((k * rowN s : Nat) : Int) ∧ wrap64 (((k : Int) + 1) * (rowN s : Int)) = (((k + 1) * rowN s : Nat) : Int)) := fun k hk => by
    have h1 : k * rowN s + rowN s = (k + 1) * rowN s := (Nat.succ_mul k _).symm
    have h2 : (k + 1) * rowN s ≤ n * rowN s := Nat.mul_le_mul_right _ hk
    refine ⟨wrap5 (by omega) (by omega), ?_, ?_⟩
    · rw [← Int.natCast_mul]; exact wrap5 (by omega) (by omega)
    · have : ((k : Int) + 1) * (rowN s : Int) = (((k + 1) * rowN s : Nat) : Int) := by rw [Int.natCast_mul]; rfl
      rw [this]; exact wrap5 (by omega) (by omega)
  have HWJ : Hid (∀ j : Int, 0 ≤ j → j < s.getD 0 0 → wrap64 (j * (rowN s : Int)) = ((j.toNat * rowN s : Nat) : Int)) := fun j h0 h1 => by
    obtain ⟨q1, q2⟩ := HRW.out j h0 h1
    have := HD3.out
    have : j * (rowN s : Int) = ((j.toNat * rowN s : Nat) : Int) := by rw [Int.natCast_mul, Int.toNat_of_nonneg h0]
    rw [this]; exact wrap5 (by omega) (by omega)
  have HWL : Hid (0 < n → wrap64 (rowN s : Int) = (rowN s : Int)) := fun h0 => by
    have h2 : 1 * rowN s ≤ n * rowN s := Nat.mul_le_mul_right _ h0
    exact wrap5 (by omega) (by omega)
  have HCY : Hid (∀ (k g : Nat) (j : Int) (W : World), k < n → 0 ≤ j → j < s.getD 0 0 → φ k = j → OwnInts W g (chosenTo s d φ n k) → Ints W b d → (Builtin.copy_ #[24, 24] 3 #[.slice (if n * rowN s - k * rowN s = 0 then some ⟨g, 0, none⟩ else (some (⟨g, 0, none⟩ : Addr)).map (·.add (k * rowN s * 1))) ((k + 1) * rowN s - k * rowN s) (n * rowN s - k * rowN s), .slice (if e - j.toNat * rowN s = 0 then b else b.map (·.add (j.toNat * rowN s * 1))) (d.length - j.toNat * rowN s) (e - j.toNat * rowN s)]).run Try.prog W = .ok (.int .i64 (rowN s : Int)) (W.setRow g (vals (chosenTo s d φ n (k + 1))))) := fun k g j W hk h0 h1 hj ho' hi => by
    have q := copy_row5 ho' (HTOL.out k (Nat.le_of_lt hk)) hi g2 (Nat.succ_mul k (rowN s)).symm (HML.out k hk) (HRW.out j h0 h1).1 3
    rw [← hj, HTOY.out k hk (by rw [hj]; exact ⟨h0, h1⟩), hj] at q
    exact q
  have HSA : Hid (∀ (k g : Nat) (W : World), k < n → (Instr.slice 24 (.slice (some ⟨g, 0, none⟩) (n * rowN s) (n * rowN s)) (some (.int .i64 ((k * rowN s : Nat) : Int))) (some (.int .i64 (((k + 1) * rowN s : Nat) : Int))) none).run Try.prog W = .ok (.slice (if n * rowN s - k * rowN s = 0 then some ⟨g, 0, none⟩ else (some (⟨g, 0, none⟩ : Addr)).map (·.add (k * rowN s * 1))) ((k + 1) * rowN s - k * rowN s) (n * rowN s - k * rowN s)) W) := fun k g W hk => run_between (Nat.mul_le_mul_right _ (Nat.le_succ k)) (HML.out k hk) W
  have HSB : Hid (∀ (j : Int) (W : World), 0 ≤ j → j < s.getD 0 0 → (Instr.slice 24 (.slice b d.length e) (some (.int .i64 ((j.toNat * rowN s : Nat) : Int))) none none).run Try.prog W = .ok (.slice (if e - j.toNat * rowN s = 0 then b else b.map (·.add (j.toNat * rowN s * 1))) (d.length - j.toNat * rowN s) (e - j.toNat * rowN s)) W) := fun j W h0 h1 => run_from (by have := (HRW.out j h0 h1).1; omega) g2 W
  obtain ⟨S, hS⟩ : ∃ S, S = (n : Int) :: s.drop 1 := ⟨_, rfl⟩
  obtain ⟨D, hD⟩ : ∃ D, D = chosenD s d φ n := ⟨_, rfl⟩
  rw [← hS] at HOR HSZ ⊢
  rw [← hD] at HTOA ⊢
  have HZ : Hid (z = (n : Int)) := hzn
  clear hzn hS hD hV ho hz hm i1 i2 g1 g2 hsl hs hz3 hn3 HTOY HRW HML HD3
  generalize rowN s = L at *
  generalize s.getD 0 0 = N at *
  generalize hN : n * L = m at *
  have HN : Hid (n * L = m) := hN
  clear hN
  generalize hTO : chosenTo s d φ n = TO at *
  clear hTO
  go_enter Try.func122, Try.ntmps122
  go_wp2_with fail
  refine (HOR.out _ (bAlloc (bAlloc (Below.refl _ _) _) _)).mono ?_
  rintro r w1 ⟨a1, c1, rfl, hp, hb⟩
  have HB1 : Hid (Below w.heap.size w w1) := bTrans (bAlloc (bAlloc (Below.refl _ _) _) _) hb
  have X1 : Hid (Box w1 w.heap.size (.slice (some ⟨ab, ao, none⟩) s.length c) (.slice b d.length e) 26) := ((box_new w _ _ _).keep (bAlloc (Below.refl _ _) _)).keep hb
  have R1 : Hid (Box w1 (w.heap.size + 1) (.slice none 0 0) (.slice none 0 0) 26) := (box_new2 w _ _ _ _).keep hb
  have P1 : Hid (Piece (w.heap.size + 2) w1.heap.size w1 (.slice a1 S.length c1) S) := by show Piece _ _ _ _ _; simpa using hp
  have I1 : Hid (Ints w1 a1 S) := by
    obtain ⟨q1, q2, q3, q4⟩ := hp.ints
    cases q3
    exact q4
  have LT : Hid (w.heap.size + 2 ≤ w1.heap.size) := by have := hb.size; show _ ≤ _; simpa using this
  clear hp hb
  go_wp2_with fail
  refine (HSZ.out _ _ _ I1.out).mono ?_
  rintro r w2 ⟨rfl, hb⟩
  have HB2 : Hid (Below w.heap.size w w2) := bTrans HB1.out hb
  have X2 : Hid (Box w2 w.heap.size (.slice (some ⟨ab, ao, none⟩) s.length c) (.slice b d.length e) 26) := X1.out.keep hb
  have R2 : Hid (Box w2 (w.heap.size + 1) (.slice none 0 0) (.slice none 0 0) 26) := R1.out.keep hb
  have P2 : Hid (Piece (w.heap.size + 2) w1.heap.size w2 (.slice a1 S.length c1) S) := P1.out.keep hb
  have LT2 : Hid (w1.heap.size ≤ w2.heap.size) := hb.size
  clear hb X1 R1 P1 I1 HB1 HOR HSZ
  go_wp2
  generalize hW : w2.alloc (.cells (vals (List.replicate m 0)) 3) = W
  have HBW : Hid (Below w2.heap.size w2 W) := by rw [← hW]; exact bAlloc (Below.refl _ _) _
  have HOW : Hid (OwnInts W w2.heap.size (TO 0)) := by rw [← hW, HTO0.out]; exact ownInts_new _ _
  clear hW hmk
  go_loopw [20] (fun i w' => ∃ k : Nat, k ≤ n ∧ i = .int .i64 (k : Int) ∧ OwnInts w' w2.heap.size (TO k) ∧ Below w2.heap.size w2 w') (fun i _ => n - (intOf i).toNat)
  case atStart => exact ⟨0, by omega, rfl, HOW.out, HBW.out⟩
  case round =>
    obtain ⟨k, hk, rfl, hO, hb⟩ := hrel
    have HO : Hid (OwnInts wr w2.heap.size (TO k)) := hO
    have HB : Hid (Below w2.heap.size w2 wr) := hb
    clear hO hb HOW HBW
    have hzn := HZ.out
    by_cases hlt : (k : Int) < z
    · have HLT : Hid (k < n) := by show _ < _; omega
      have hq := HQ.out (by omega)
      have hn0 : z ≠ 0 := by omega
      have HVK : Hid (Calls Try.prog f #[.int .i64 (k : Int), p, q] wr fun r W' => r = .returned (.int .i64 (φ k)) ∧ Below wr.heap.size wr W') := HV.out wr k HLT.out (bTrans HB2.out HB.out)
      have TN : Hid (¬ (0 ≤ φ k ∧ φ k < N) → TO k = TO (k + 1)) := HTON.out k HLT.out
      clear hzn
      have hwL := HWL.out (Nat.lt_of_le_of_lt (Nat.zero_le _) HLT.out)
      have hz3 : z ≤ 300 := by have := HZ.out; have := HM.out; omega
      have HCK := HCY.out k w2.heap.size (φ k)
      generalize φ k = j at *
      by_cases hj : 0 ≤ j
      · by_cases hj2 : j < N
        · have HCP : Hid (∀ W, OwnInts W w2.heap.size (TO k) → Ints W b d → (Builtin.copy_ #[24, 24] 3 #[.slice (if m - k * L = 0 then some ⟨w2.heap.size, 0, none⟩ else (some (⟨w2.heap.size, 0, none⟩ : Addr)).map (·.add (k * L * 1))) ((k + 1) * L - k * L) (m - k * L), .slice (if e - j.toNat * L = 0 then b else b.map (·.add (j.toNat * L * 1))) (d.length - j.toNat * L) (e - j.toNat * L)]).run Try.prog W = .ok (.int .i64 (L : Int)) (W.setRow w2.heap.size (vals (TO (k + 1))))) := fun W h1 h2 => HCK W HLT.out hj hj2 rfl h1 h2
          have hs1 := fun W => HSA.out k w2.heap.size W HLT.out
          have hs2 := fun W => HSB.out j W hj hj2
          obtain ⟨hk1, w1', w2'⟩ := HW.out k HLT.out
          have HZ3 : Hid (z ≤ 300 ∧ (k : Int) < z) := ⟨hz3, hlt⟩
          have HW4 : Hid (wrap64 ((k : Int) + 1) = (k : Int) + 1 ∧ wrap64 ((k : Int) * (L : Int)) = ((k * L : Nat) : Int) ∧ wrap64 (((k : Int) + 1) * (L : Int)) = (((k + 1) * L : Nat) : Int)) := ⟨hk1, w1', w2'⟩
          clear hk1 w1' w2'
          have HW3 : Hid (wrap64 (j * (L : Int)) = ((j.toNat * L : Nat) : Int)) := HWJ.out j hj hj2
          clear TN HCK HSA HSB HW HWJ HCY HTON HTOL
          generalize (if m - k * L = 0 then some ⟨w2.heap.size, 0, none⟩ else (some (⟨w2.heap.size, 0, none⟩ : Addr)).map (·.add (k * L * 1))) = A1 at *
          generalize (if e - j.toNat * L = 0 then b else b.map (·.add (j.toNat * L * 1))) = A2 at *
          generalize (k + 1) * L - k * L = n1 at *
          generalize m - k * L = n2 at *
          generalize d.length - j.toNat * L = n3 at *
          generalize e - j.toNat * L = n4 at *
          generalize (k + 1) * L = n5 at *
          generalize k * L = n6 at *
          generalize j.toNat * L = n7 at *
          go_wp2_with (go_at_fn f; refine HVK.out.mono ?_; rintro r w3 ⟨rfl, hb⟩; have HB3 : Hid (Below w2.heap.size w2 w3) := bTrans HB.out hb; have HO3 : Hid (OwnInts w3 w2.heap.size (TO k)) := (HO.out.keep5 hb); have x0 := (X2.out.keep HB3.out).c0; have x1 := (X2.out.keep HB3.out).c1; have xn := HN0.out _ (bTrans HB2.out HB3.out); have hcp := HCP.out w3.drew (HO3.out.keep5 (Below.refl w3.heap.size w3).drew) (HI2.out.keep (bTrans HB2.out HB3.out.drew)); clear hb)
          have HO4 : Hid (OwnInts (w3.drew.setRow w2.heap.size (vals (TO (k + 1)))) w2.heap.size (TO (k + 1))) := (HO3.out.keep5 (Below.refl w3.heap.size w3).drew).setRow _
          have HB4 : Hid (Below w2.heap.size w2 (w3.drew.setRow w2.heap.size (vals (TO (k + 1))))) := below_setRow HB3.out.drew (Nat.le_refl _) _
          generalize hW : w3.drew.setRow w2.heap.size (vals (TO (k + 1))) = W4 at *
          clear hW
          obtain ⟨hk1, w1', w2'⟩ := HW4.out
          have w3' := HW3.out
          clear hz3 hlt
          go_region
          obtain ⟨hz3, hlt⟩ := HZ3.out
          clear hk1 w1' w2' w3' hs1 hs2 hcp x0 x1 xn
          go_wp2
          go_roundw
          case rel => exact ⟨k + 1, HLT.out, by go_num, HO4.out, HB4.out⟩
          case measure => simp [intOf]; have := HLT.out; omega
        · have HT' : Hid (TO k = TO (k + 1)) := TN.out (fun q => hj2 q.2)
          clear TN HCK
          go_wp2_with (go_at_fn f; refine HVK.out.mono ?_; rintro r w3 ⟨rfl, hb⟩; have HB3 : Hid (Below w2.heap.size w2 w3) := bTrans HB.out hb; have HO3 : Hid (OwnInts w3 w2.heap.size (TO k)) := (HO.out.keep5 hb); have x0 := (X2.out.keep HB3.out).c0; have xn := HN0.out _ (bTrans HB2.out HB3.out); clear hb)
          go_roundw
          case rel => exact ⟨k + 1, HLT.out, by go_num, by rw [← HT'.out]; exact HO3.out, HB3.out⟩
          case measure => simp [intOf]; have := HLT.out; omega
      · have HT' : Hid (TO k = TO (k + 1)) := TN.out (fun q => hj q.1)
        clear TN HCK
        go_wp2_with (go_at_fn f; refine HVK.out.mono ?_; rintro r w3 ⟨rfl, hb⟩; have HB3 : Hid (Below w2.heap.size w2 w3) := bTrans HB.out hb; have HO3 : Hid (OwnInts w3 w2.heap.size (TO k)) := (HO.out.keep5 hb); clear hb)
        go_roundw
        case rel => exact ⟨k + 1, HLT.out, by go_num, by rw [← HT'.out]; exact HO3.out, HB3.out⟩
        case measure => simp [intOf]; have := HLT.out; omega
    · obtain rfl : k = n := by omega
      clear hzn
      have LD : Hid (D.length = m) := by show _ = _; rw [← HTOA.out]; exact HTOL.out k (Nat.le_refl _)
      have R3 : Hid (Box wr (w.heap.size + 1) (.slice none 0 0) (.slice none 0 0) 26) := R2.out.keep HB.out
      have P3 : Hid (Piece (w.heap.size + 2) w1.heap.size wr (.slice a1 S.length c1) S) := P2.out.keep HB.out
      have PD : Hid (Piece w2.heap.size (w2.heap.size + 1) wr (.slice (some ⟨w2.heap.size, 0, none⟩) m m) D) := by
        have q := OwnInts.piece HO.out (B := w2.heap.size) (C := w2.heap.size + 1) (Nat.le_refl _) (by omega) m (by rw [HTOL.out k (Nat.le_refl _)]; exact Nat.le_refl _)
        rw [HTOL.out k (Nat.le_refl _), HTOA.out] at q
        exact q
      have LW : Hid (w2.heap.size + 1 ≤ wr.heap.size) := lt_of_heapA HO.out
      have HB5 : Hid (Below w.heap.size w wr) := bTrans HB2.out HB.out
      have y0 := R3.out.c0
      have y1 := R3.out.c1
      have f0 : wr.frozen? ⟨w.heap.size + 1, 0, none⟩ = false := free_at R3.out 0
      have f1 : wr.frozen? ⟨w.heap.size + 1, 1, none⟩ = false := free_at R3.out 1
      have HR : Hid (((wr.setCell ⟨w.heap.size + 1, 0, none⟩ (.slice a1 S.length c1)).setCell ⟨w.heap.size + 1, 1, none⟩ (.slice (some ⟨w2.heap.size, 0, none⟩) m m)).heap[w.heap.size + 1]? = some (.cells #[.slice a1 S.length c1, .slice (some ⟨w2.heap.size, 0, none⟩) m m] 26 (0, 0))) := arr_stored R3.out
      go_wp2
      refine bodyPost_ret (v := .agg #[.slice a1 S.length c1, .slice (some ⟨w2.heap.size, 0, none⟩) m m]) (results_arr rfl _ _ (w.heap.size + 1) _ _ rfl HR.out) rfl ?_
      refine ⟨_, rfl, ?_, below_setCell (below_setCell HB5.out (by omega) _ _) (by omega) _ _⟩
      have L1 := LT.out
      have L2 := LT2.out
      have L3 := LW.out
      have p1' := (P3.out.win (win_setCell wr (w.heap.size + 1) 0 (.slice a1 S.length c1)) (.inr (by omega))).win (win_setCell _ (w.heap.size + 1) 1 (.slice (some ⟨w2.heap.size, 0, none⟩) m m)) (.inr (by omega))
      have p2' := (PD.out.win (win_setCell wr (w.heap.size + 1) 0 (.slice a1 S.length c1)) (.inr (by omega))).win (win_setCell _ (w.heap.size + 1) 1 (.slice (some ⟨w2.heap.size, 0, none⟩) m m)) (.inr (by omega))
      exact ⟨_, _, rfl, p1'.mono (by omega) (by simp only [size_setCell]; omega), p2'.mono (by omega) (by simp only [size_setCell]; omega), p1'.apart p2' (.inl (by omega))⟩
end Go.Proofs.Ytcpgdhffemecbab
namespace Go.Proofs.Ytcpgdhffemecbab
set_option linter.unusedVariables false
/-- How often row i is told. -/
def often (d : List Int) (i : Nat) : Int := d.getD (i % d.length) 0
def tot (d : List Int) : Nat → Int
  | 0 => 0
  | n + 1 => tot d n + often d n
def copyC (s d t e : List Int) : Int := if arrOk s d = true ∧ arrOk t e = true then (if 1 < s.length ∨ t = [] then 4 else if d.length ≠ 1 ∧ (d.length : Int) ≠ t.getD 0 0 then 3 else if d.any (fun x => decide (x < 0)) = true then 2 else if sizeV (tot d (rowsN t) :: t.drop 1) < 0 then 6 else 0) else 1
/-- The rows of the first numbers, each as often as told. -/
def toldTo (d : List Int) (f : Nat → List Int) : Nat → List Int
  | 0 => []
  | n + 1 => toldTo d f n ++ (List.replicate (often d n).toNat (f n)).flatten
def copyD (d t e : List Int) : List Int := toldTo d (fun i => rowAt t e i) (rowsN t)
def copyR (s d t e : List Int) : Int × List Int × List Int := mkR (copyC s d t e) (tot d (rowsN t) :: t.drop 1) (copyD d t e)
theorem copyR_bad {s d t e : List Int} (h : ¬ (arrOk s d = true ∧ arrOk t e = true)) : copyR s d t e = (1, [], []) := by
  unfold copyR; rw [show copyC s d t e = 1 from by unfold copyC; rw [if_neg h]]; rfl
theorem copyR_told {s d t e : List Int} (h1 : arrOk s d = true) (h2 : arrOk t e = true) :
    copyR s d t e = if 1 < s.length ∨ t = [] then (4, [], []) else if d.length ≠ 1 ∧ (d.length : Int) ≠ t.getD 0 0 then (3, [], []) else if d.any (fun x => decide (x < 0)) = true then (2, [], []) else if sizeV (tot d (rowsN t) :: t.drop 1) < 0 then (6, [], []) else (0, tot d (rowsN t) :: t.drop 1, copyD d t e) := by
  unfold copyR copyC
  rw [if_pos ⟨h1, h2⟩]
  split
  · rfl
  · split
    · rfl
    · split
      · rfl
      · split <;> rfl
theorem often_bd {s d : List Int} (ho : arrOk s d = true) (hn : ∀ j, j < d.length → 0 ≤ d.getD j 0) (i : Nat) : 0 ≤ often d i ∧ often d i ≤ 1000000000000 := by
  unfold often
  by_cases h : i % d.length < d.length
  · have hk : ok (d.getD (i % d.length) 0) = true := by
      unfold arrOk at ho
      rw [Bool.and_eq_true, List.all_eq_true] at ho
      exact ho.2 _ (by simp [h])
    exact ⟨hn _ h, (ok_bd hk).2⟩
  · have e : d.getD (i % d.length) 0 = 0 := by simp [List.getD, List.getElem?_eq_none (show d.length ≤ i % d.length by omega)]
    rw [e]
    omega
theorem tot_bd {s d : List Int} (ho : arrOk s d = true) (hn : ∀ j, j < d.length → 0 ≤ d.getD j 0) (i : Nat) : 0 ≤ tot d i ∧ tot d i ≤ i * 1000000000000 := by
  induction i with
  | zero => exact ⟨Int.le_refl _, by simp [tot]⟩
  | succ i ih =>
    have := often_bd ho hn i
    unfold tot
    push_cast
    omega
theorem tot_mono {s d : List Int} (ho : arrOk s d = true) (hn : ∀ j, j < d.length → 0 ≤ d.getD j 0) {i n : Nat} (h : i ≤ n) : tot d i ≤ tot d n := by
  induction n with
  | zero => obtain rfl : i = 0 := by omega
            exact Int.le_refl _
  | succ n ih =>
    by_cases e : i = n + 1
    · subst e; exact Int.le_refl _
    · have := ih (by omega)
      have := often_bd ho hn n
      show tot d i ≤ tot d n + often d n
      omega
theorem told_len {s d : List Int} (ho : arrOk s d = true) (hn : ∀ j, j < d.length → 0 ≤ d.getD j 0) (f : Nat → List Int) (m : Nat) (hf : ∀ i, (f i).length ≤ m) (i : Nat) : ((toldTo d f i).length : Int) ≤ tot d i * m := by
  induction i with
  | zero => simp [toldTo, tot]
  | succ i ih =>
    have hb := often_bd ho hn i
    unfold toldTo tot
    rw [List.length_append, Int.add_mul]
    have e : ((List.replicate (often d i).toNat (f i)).flatten.length : Int) = often d i * ((f i).length : Int) := by
      rw [List.length_flatten]
      simp
      rw [Int.max_eq_left hb.1]
    have h2 : often d i * ((f i).length : Int) ≤ often d i * (m : Int) := Int.mul_le_mul_of_nonneg_left (by have := hf i; omega) hb.1
    push_cast
    omega
theorem told_ext {d : List Int} {f g : Nat → List Int} {n : Nat} (h : ∀ i, i < n → f i = g i) : toldTo d f n = toldTo d g n := by
  induction n with
  | zero => rfl
  | succ n ih =>
    unfold toldTo
    rw [ih (fun i hi => h i (by omega)), h n (by omega)]
theorem big_shape {x : Int} {u : List Int} (h : 300 < x) : sizeV (x :: u) < 0 := by
  unfold sizeV
  split
  · decide
  · rw [if_neg (by simp [dimOk]; omega)]; decide
end Go.Proofs.Ytcpgdhffemecbab
namespace Go.Proofs.Ytcpgdhffemecbab
set_option linter.unusedVariables false
def sumL (l : List Int) : Nat → Int
  | 0 => 0
  | n + 1 => sumL l n + l.getD n 0
/-- Each place of a list as often as its number tells. -/
def toldP (l : List Int) : Nat → List Int
  | 0 => []
  | n + 1 => toldP l n ++ List.replicate (l.getD n 0).toNat (n : Int)
theorem again_often {d : List Int} {n i : Nat} (h : i < n) : (againD d n).getD i 0 = often d i := by
  unfold againD often
  by_cases e : d = []
  · simp [e, h]
  · simp [e, h]
theorem again_len (d : List Int) (n : Nat) : (againD d n).length = n := by simp [againD]
theorem sumL_tot {d : List Int} {n : Nat} : ∀ {k : Nat}, k ≤ n → sumL (againD d n) k = tot d k := by
  intro k
  induction k with
  | zero => intro _; rfl
  | succ k ih =>
    intro h
    show sumL (againD d n) k + (againD d n).getD k 0 = tot d k + often d k
    rw [ih (by omega), again_often (by omega)]
theorem told_rows {d : List Int} {n : Nat} (g : Nat → List Int) : ∀ {k : Nat}, k ≤ n → (toldP (againD d n) k).flatMap (fun x => g x.toNat) = toldTo d g k := by
  intro k
  induction k with
  | zero => intro _; rfl
  | succ k ih =>
    intro h
    show (toldP (againD d n) k ++ List.replicate ((againD d n).getD k 0).toNat (k : Int)).flatMap _ = toldTo d g k ++ (List.replicate (often d k).toNat (g k)).flatten
    rw [List.flatMap_append, ih (by omega), again_often (by omega)]
    congr 1
    rw [List.flatMap_def, List.map_replicate]
    rfl
theorem toldP_len {l : List Int} (h : ∀ j, j < l.length → 0 ≤ l.getD j 0) : ∀ {k : Nat}, k ≤ l.length → ((toldP l k).length : Int) = sumL l k := by
  intro k
  induction k with
  | zero => intro _; rfl
  | succ k ih =>
    intro hk
    show (((toldP l k) ++ List.replicate (l.getD k 0).toNat (k : Int)).length : Int) = sumL l k + l.getD k 0
    rw [List.length_append, List.length_replicate]
    have := h k (by omega)
    have := ih (by omega)
    push_cast
    omega
theorem toldP_mem {l : List Int} : ∀ {k : Nat} {x : Int}, x ∈ toldP l k → 0 ≤ x ∧ x < k := by
  intro k
  induction k with
  | zero => intro x h; cases h
  | succ k ih =>
    intro x h
    have h' : x ∈ toldP l k ++ List.replicate (l.getD k 0).toNat (k : Int) := h
    rw [List.mem_append] at h'
    rcases h' with h' | h'
    · have := ih h'; omega
    · have := List.eq_of_mem_replicate h'; omega
theorem range_getD (P : List Int) (g : Int → List Int) : (List.range P.length).flatMap (fun i => g (P.getD i 0)) = P.flatMap g := by
  rw [List.flatMap_def, List.flatMap_def]
  congr 1
  apply List.ext_getElem
  · simp
  · intro i h1 h2
    simp at h1
    simp [h1]
theorem flatMap_mem {P : List Int} {g h : Int → List Int} (q : ∀ x, x ∈ P → g x = h x) : P.flatMap g = P.flatMap h := by
  rw [List.flatMap_def, List.flatMap_def, List.map_congr_left q]
/-- The rows that are chosen by what is told are what Copy answers. -/
theorem copy_chosen {d t e : List Int} (h2 : arrOk t e = true) : chosenD t e (fun k => (toldP (againD d (rowsN t)) (rowsN t)).getD k 0) (toldP (againD d (rowsN t)) (rowsN t)).length = copyD d t e := by
  obtain ⟨e1, e2⟩ := rowsN5 h2
  unfold chosenD copyD
  rw [range_getD _ (fun x => chosenRow t e x), ← told_rows (n := rowsN t) (fun i => rowAt t e i) (Nat.le_refl _)]
  refine flatMap_mem (fun x hx => ?_)
  have := toldP_mem hx
  unfold chosenRow
  rw [if_pos ⟨by omega, by omega⟩]
theorem any_below {d : List Int} : d.any (fun x => decide (x < 0)) = false ↔ ∀ j, j < d.length → 0 ≤ d.getD j 0 := by
  constructor
  · intro h j hj
    rw [List.any_eq_false] at h
    have := h (d.getD j 0) (by simp [hj])
    simpa using this
  · intro h
    rw [List.any_eq_false]
    intro y hy
    obtain ⟨j, hj, rfl⟩ := List.getElem_of_mem hy
    have := h j hj
    rw [List.getD_eq_getElem?_getD, List.getElem?_eq_getElem hj] at this
    simpa using this
theorem copyC_zero {s d t e : List Int} (h : copyC s d t e = 0) : arrOk s d = true ∧ arrOk t e = true ∧ t ≠ [] ∧ (∀ j, j < d.length → 0 ≤ d.getD j 0) ∧ 0 ≤ sizeV (tot d (rowsN t) :: t.drop 1) := by
  unfold copyC at h
  by_cases q : arrOk s d = true ∧ arrOk t e = true
  · rw [if_pos q] at h
    by_cases q2 : 1 < s.length ∨ t = []
    · rw [if_pos q2] at h; cases h
    · rw [if_neg q2] at h
      by_cases q3 : d.length ≠ 1 ∧ (d.length : Int) ≠ t.getD 0 0
      · rw [if_pos q3] at h; cases h
      · rw [if_neg q3] at h
        by_cases q4 : d.any (fun x => decide (x < 0)) = true
        · rw [if_pos q4] at h; cases h
        · rw [if_neg q4] at h
          by_cases q5 : sizeV (tot d (rowsN t) :: t.drop 1) < 0
          · rw [if_pos q5] at h; cases h
          · exact ⟨q.1, q.2, fun k => q2 (.inr k), any_below.1 (by simpa using q4), by omega⟩
  · rw [if_neg q] at h; cases h
theorem copy_len {s d t e : List Int} (h : copyC s d t e = 0) : (tot d (rowsN t) :: t.drop 1).length ≤ 1048576 ∧ (copyD d t e).length ≤ 1048576 := by
  obtain ⟨h1, h2, h3, h4, h5⟩ := copyC_zero h
  have e2 := arrOk_len h2
  have e3 := (sizeV_ok h5).1
  have e4 := dim5 h5
  constructor
  · omega
  · have := told_len h1 h4 (fun i => rowAt t e i) 300 (fun i => by unfold rowAt; rw [List.length_take, List.length_drop]; omega) (rowsN t)
    have h6 : tot d (rowsN t) * ((300 : Nat) : Int) ≤ 300 * 300 := Int.mul_le_mul_of_nonneg_right e4.2 (by decide)
    unfold copyD
    omega
end Go.Proofs.Ytcpgdhffemecbab
namespace Go.Proofs.Ytcpgdhffemecbab
open Go.RowKit
set_option linter.unusedVariables false
set_option linter.unusedSimpArgs false
theorem sumL_bd {l : List Int} (h : ∀ j, j < l.length → 0 ≤ l.getD j 0 ∧ l.getD j 0 ≤ 1000000000000) : ∀ {k : Nat}, k ≤ l.length → 0 ≤ sumL l k ∧ sumL l k ≤ k * 1000000000000 := by
  intro k
  induction k with
  | zero => intro _; exact ⟨Int.le_refl _, by simp [sumL]⟩
  | succ k ih =>
    intro hk
    have h1 := h k (by omega)
    have h2 := ih (by omega)
    show 0 ≤ sumL l k + l.getD k 0 ∧ sumL l k + l.getD k 0 ≤ _
    push_cast
    omega
/-- A list of no number, with room. -/
theorem make0_ints (n : Nat) (hn : n ≤ 1073741824) (w : World) :
    ∃ w', (Instr.makeSlice 24 (.int .i64 0) (.int .i64 (n : Int))).run Try.prog w = .ok (.slice (some ⟨w.heap.size, 0, none⟩) 0 n) w' ∧ NewInts w.heap.size w' (.slice (some ⟨w.heap.size, 0, none⟩) 0 n) [] ∧ Below w.heap.size w w' := by
  have hi := info_int
  cases hq : Try.prog.info? 3 with
  | none => rw [hq] at hi; cases hi
  | some i =>
    rw [hq] at hi
    simp at hi
    obtain ⟨z1, z2, z3⟩ := hi
    have := run_make (P := Try.prog) w 24 3 i (.int .i64 0) Try.underlying24 hq z1 .i64 .i64 0 n (by omega) (by omega) (by rw [z3]; omega) (by omega)
    rw [z2, Int.toNat_natCast, Nat.mul_one] at this
    refine ⟨_, this, ⟨rfl, .inr ⟨w.heap.size, n, _, rfl, Nat.le_refl _, heap_alloc_new w _, Nat.zero_le _, by unfold maxLen; omega, ?_, by simp⟩⟩, bAlloc (Below.refl _ _) _⟩
    rw [made_zero]
    simp [vals]
end Go.Proofs.Ytcpgdhffemecbab
namespace Go.Proofs.Ytcpgdhffemecbab
open Go.RowKit
set_option linter.unusedVariables false
set_option linter.unusedSimpArgs false
theorem flat_succ (D : Nat → List Int) (k : Nat) : (List.range (k + 1)).flatMap D = (List.range k).flatMap D ++ D k := by
  rw [List.range_succ, List.flatMap_append]; simp
set_option maxRecDepth 20000 in
set_option maxHeartbeats 8000000 in
/-- strung. -/
theorem strung_impl {S : List Int} {n B E : Nat} {C : Nat → Int} {T D : Nat → List Int} {w : World} {a : Option Addr} {c f : Nat} {p q : Value} (hE : ∀ (args : Array Value) (w : World), (callFunc f args).run Try.prog w = .ok (.enter f args) w)
    (hS : Piece B E w (.slice a S.length c) S) (hB : B ≤ w.heap.size) (hEw : E ≤ w.heap.size) (hz : 0 ≤ sizeV S) (hn : n ≤ 90000) (hD : ∀ k, k ≤ n → ((List.range k).flatMap D).length ≤ 100000)
    (hV : ∀ (W : World) (k : Nat), k < n → Below w.heap.size w W → Calls Try.prog f #[.int .i64 (k : Int), p, q] W fun r W' => ∃ v', r = .returned (.tuple #[v', .int .i64 (C k)]) ∧ Arr W.heap.size W'.heap.size W' v' (T k) (D k) ∧ Below W.heap.size W W') :
    Calls Try.prog 35 #[.slice a S.length c, .int .i64 (n : Int), .func (.func f) #[] #[p, q]] w fun r w' => ∃ v', r = .returned (.tuple #[v', .int .i64 (firstC C n)]) ∧ Arr B w'.heap.size w' v' (mkR (firstC C n) S ((List.range n).flatMap D)).2.1 (mkR (firstC C n) S ((List.range n).flatMap D)).2.2 ∧ Below w.heap.size w w' := by
  have HV : Hid (∀ (W : World) (k : Nat), k < n → Below w.heap.size w W → Calls Try.prog f #[.int .i64 (k : Int), p, q] W fun r W' => ∃ v', r = .returned (.tuple #[v', .int .i64 (C k)]) ∧ Arr W.heap.size W'.heap.size W' v' (T k) (D k) ∧ Below W.heap.size W W') := hV
  have HD : Hid (∀ k, k ≤ n → ((List.range k).flatMap D).length ≤ 100000) := hD
  have HS : Hid (Piece B E w (.slice a S.length c) S) := hS
  obtain ⟨m, hm⟩ : ∃ m : Nat, sizeV S = (m : Int) := ⟨(sizeV S).toNat, by omega⟩
  have hm3 : m ≤ 300 := by have := sizeV_bd S; omega
  have HSZ : Hid (∀ W, Below w.heap.size w W → Calls Try.prog 76 #[.slice a S.length c] W fun r w' => r = .returned (.int .i64 (m : Int)) ∧ Below W.heap.size W w') := fun W hb => by
    obtain ⟨q1, q2, q3, q4⟩ := (hS.keep hb).ints
    cases q3
    have qq := size_impl c q4
    rw [hm] at qq
    exact qq
  have HB0 : Hid (B ≤ w.heap.size) := hB
  have HE0 : Hid (E ≤ w.heap.size) := hEw
  clear hV hD hS hm hz hB hEw
  go_enter Try.func35, Try.ntmps35
  go_wp2_with fail
  refine (HSZ.out _ (bAlloc (Below.refl _ _) _)).mono ?_
  rintro r w2 ⟨rfl, hb⟩
  have HB2 : Hid (Below w.heap.size w w2) := bTrans (bAlloc (Below.refl _ _) _) hb
  have R2 : Hid (Box w2 w.heap.size (.slice none 0 0) (.slice none 0 0) 26) := (box_new w _ _ _).keep hb
  have LT : Hid (w.heap.size < w2.heap.size) := R2.out.lt
  clear hb HSZ
  obtain ⟨w3, r3, n3, b3⟩ := make0_ints m (by omega) w2
  have N3 : Hid (NewInts w2.heap.size w3 (.slice (some ⟨w2.heap.size, 0, none⟩) 0 m) []) := n3
  have B3 : Hid (Below w2.heap.size w2 w3) := b3
  clear n3 b3
  go_wp2
  clear r3
  go_loopw [8, 16] (fun v i w' => ∃ (k : Nat), k ≤ n ∧ i = .int .i64 (k : Int) ∧ NewInts w2.heap.size w' v ((List.range k).flatMap D) ∧ firstC C k = 0 ∧ Below w2.heap.size w2 w') (fun _ i _ => n - (intOf i).toNat)
  case atStart => exact ⟨0, by omega, rfl, N3.out, rfl, B3.out⟩
  case round =>
    obtain ⟨k, hk, rfl, hN, hF, hB⟩ := hrel
    have NK : Hid (NewInts w2.heap.size wr _ ((List.range k).flatMap D)) := hN
    have BK : Hid (Below w2.heap.size w2 wr) := hB
    have FK : Hid (firstC C k = 0) := hF
    obtain ⟨a5, c5, rfl, _⟩ := hN.ints
    clear hN hB hF N3 B3
    by_cases hlt : (k : Int) < (n : Int)
    · have L : k < n := by omega
      have HVK : Hid (Calls Try.prog f #[.int .i64 (k : Int), p, q] wr fun r W' => ∃ v', r = .returned (.tuple #[v', .int .i64 (C k)]) ∧ Arr wr.heap.size W'.heap.size W' v' (T k) (D k) ∧ Below wr.heap.size wr W') := HV.out wr k L (bTrans HB2.out BK.out)
      have E1 : Hid (C k = 0 → firstC C (k + 1) = 0) := fun h => firstC_go FK.out h
      have E2 : Hid (C k ≠ 0 → firstC C n = C k) := fun h => firstC_stop FK.out h L
      have LD := HD.out (k + 1) (by omega)
      have EF : Hid ((List.range (k + 1)).flatMap D = (List.range k).flatMap D ++ D k) := flat_succ D k
      rw [EF.out, List.length_append] at LD
      obtain ⟨P, hP⟩ : ∃ P, P = (List.range k).flatMap D := ⟨_, rfl⟩
      rw [← hP] at NK LD EF ⊢
      clear hP
      obtain ⟨dk, hdk⟩ : ∃ dk, dk = D k := ⟨_, rfl⟩
      obtain ⟨tk, htk⟩ : ∃ tk, tk = T k := ⟨_, rfl⟩
      rw [← hdk] at EF LD HVK
      rw [← htk] at HVK
      clear hdk htk
      have LDK : Hid (P.length + dk.length ≤ 100000) := LD
      clear LD
      generalize C k = x at *
      by_cases hx : x = 0
      · subst hx
        have E1' : Hid (firstC C (k + 1) = 0) := E1.out rfl
        clear E1 E2
        go_wp2_with fail
        go_at_fn f
        refine HVK.out.mono ?_
        rintro r w4 ⟨v4, rfl, ha, hb⟩
        obtain ⟨ta, tc, da, dc, rfl, _, i4, _, _⟩ := ha.arrI
        have I4 : Hid (Ints w4 da dk) := i4
        have HB4 : Hid (Below wr.heap.size wr w4) := hb
        clear ha hb i4
        obtain ⟨a7, c7, w7, r7, n7, b7⟩ := growL (NewInts.keep (NewInts.keep NK.out HB4.out) (bAlloc (Below.refl _ _) (.cells #[.slice ta tk.length tc, .slice da dk.length dc] 26))) (I4.out.keep (bAlloc (Below.refl _ _) (.cells #[.slice ta tk.length tc, .slice da dk.length dc] 26))) (by have := BK.out.size; have := HB4.out.size; simp; omega) (by have := LDK.out; omega) dc
        have R7 : Hid (_ = _) := r7
        have N7 : Hid (NewInts w2.heap.size w7 (.slice a7 (P ++ dk).length c7) (P ++ dk)) := n7
        have B7 : Hid (Below w2.heap.size w2 w7) := (bAlloc (bTrans BK.out HB4.out) _).trans b7
        clear r7 n7 b7
        go_wp2_with (at_builtin; refine wpList_append_ty rfl _ _ 24 24 rfl _ _ _ rfl rfl R7.out ?_)
        go_roundw
        case rel => exact ⟨k + 1, by omega, by go_num, by rw [EF.out]; have := N7.out; rw [List.length_append] at this; exact this, E1'.out, B7.out⟩
        case measure => simp [intOf]; omega
      · have E2' : Hid (firstC C n = x) := E2.out hx
        clear E1 E2
        go_wp2_with fail
        go_at_fn f
        refine HVK.out.mono ?_
        rintro r w4 ⟨v4, rfl, ha, hb⟩
        obtain ⟨ta, tc, da, dc, rfl, _, _, _, _⟩ := ha.arrI
        have HB4 : Hid (Below w2.heap.size w2 w4) := bTrans BK.out hb
        have R4 : Hid (Box (w4.alloc (.cells #[.slice ta tk.length tc, .slice da dk.length dc] 26)) w.heap.size (.slice none 0 0) (.slice none 0 0) 26) := ((R2.out.keep HB4.out).keep (bAlloc (Below.refl _ _) _))
        have BW4 : Hid (Below w.heap.size w (w4.alloc (.cells #[.slice ta tk.length tc, .slice da dk.length dc] 26))) := bAlloc (bTrans HB2.out HB4.out) _
        clear ha hb
        have y0 := R4.out.c0
        have y1 := R4.out.c1
        have f0 := free_at R4.out 0
        have f1 := free_at R4.out 1
        have HR : Hid (_ = _) := arr_stored (x' := .slice none 0 0) (y' := .slice none 0 0) R4.out
        have hxx : (x != 0) = true := by simpa using hx
        go_wp2
        refine bodyPost_ret (results_arr_tmp Try.results35 _ _ w.heap.size _ _ rfl HR.out) rfl ?_
        rw [E2'.out, mkR_bad hx]
        exact ⟨_, rfl, arr_zero _ _ _, below_setCell (below_setCell BW4.out (by omega) _ _) (by omega) _ _⟩
    · obtain rfl : k = n := by omega
      have R4 : Hid (Box wr w.heap.size (.slice none 0 0) (.slice none 0 0) 26) := R2.out.keep BK.out
      have BW4 : Hid (Below w.heap.size w wr) := bTrans HB2.out BK.out
      have P4 : Hid (Piece B E wr (.slice a S.length c) S) := HS.out.keep BW4.out
      have N4 : Hid (Piece w2.heap.size wr.heap.size wr (.slice a5 ((List.range k).flatMap D).length c5) ((List.range k).flatMap D)) := NK.out.piece
      clear NK
      generalize ((List.range k).flatMap D).length = q9 at *
      have y0 := R4.out.c0
      have y1 := R4.out.c1
      have f0 := free_at R4.out 0
      have f1 := free_at R4.out 1
      have HR : Hid (_ = _) := arr_stored (x' := .slice a S.length c) (y' := .slice a5 q9 c5) R4.out
      go_wp2
      refine bodyPost_ret (results_arr_tmp Try.results35 _ _ w.heap.size _ _ rfl HR.out) rfl ?_
      rw [FK.out, mkR_good]
      refine ⟨_, rfl, ?_, below_setCell (below_setCell BW4.out (by omega) _ _) (by omega) _ _⟩
      have L1 := LT.out
      have L2 := HE0.out
      have L3 := HB0.out
      have p1' := (P4.out.win (win_setCell wr w.heap.size 0 (.slice a S.length c)) (.inl (by omega))).win (win_setCell _ w.heap.size 1 (.slice a5 q9 c5)) (.inl (by omega))
      have p2' := (N4.out.win (win_setCell wr w.heap.size 0 (.slice a S.length c)) (.inr (by omega))).win (win_setCell _ w.heap.size 1 (.slice a5 q9 c5)) (.inr (by omega))
      have L4 := BW4.out.size
      exact ⟨_, _, rfl, p1'.mono (by omega) (by simp only [size_setCell]; omega), p2'.mono (by omega) (by simp only [size_setCell]; omega), p1'.apart p2' (.inl (by omega))⟩
set_option maxHeartbeats 1000000 in
/-- spreading: its closure, and what it holds. -/
theorem spreading_impl (g : Int) (x y : Value) (w : World) :
    Calls Try.prog 34 #[.int .i64 g, .agg #[x, y]] w fun r w' => r = .returned (.func (.func 75) #[] #[.pointer (some ⟨w.heap.size, 0, none⟩), .pointer (some ⟨w.heap.size + 1, 0, none⟩)]) ∧ w'.cell? ⟨w.heap.size, 0, none⟩ = some (.int .i64 g) ∧ Box w' (w.heap.size + 1) x y 26 ∧ Below w.heap.size w w' ∧ w.heap.size + 2 ≤ w'.heap.size := by
  go_enter Try.func34, Try.ntmps34
  go_wp2
  go_ret
  refine ⟨rfl, ?_, box_new2 w _ _ _ _, bAlloc (bAlloc (Below.refl _ _) _) _, by simp⟩
  exact cell_at (heap_alloc2_old w _ _) rfl
set_option maxRecDepth 20000 in
set_option maxHeartbeats 2000000 in
/-- spreading's closure. -/
theorem spread1_impl {g x : Int} {t e : List Int} {w : World} {o q : Nat} {z z' : Value} (hg : w.cell? ⟨o, 0, none⟩ = some (.int .i64 g)) (ho : o < w.heap.size) (hq : Box w q z z' 26) (k : ArrI w (.agg #[z, z']) t e) (ht : t.length ≤ 1048576) (he : e.length ≤ 1048576) :
    Calls Try.prog 75 #[.int .i64 x, .pointer (some ⟨o, 0, none⟩), .pointer (some ⟨q, 0, none⟩)] w fun r w' => ∃ v', r = .returned (.tuple #[v', .int .i64 (eachTwoC g [] [x] t e)]) ∧ Arr w.heap.size w'.heap.size w' v' (eachTwoS g [] [x] t e) (eachTwoD g [] [x] t e) ∧ Below w.heap.size w w' := by
  have HE : Hid (∀ W o', Below w.heap.size w W → Ints W (some ⟨o', 0, none⟩) [x] → Calls Try.prog 11 #[.int .i64 g, .agg #[.slice none 0 0, .slice (some ⟨o', 0, none⟩) 1 1], .agg #[z, z']] W fun r w' => ∃ v', r = .returned (.tuple #[v', .int .i64 (eachTwoC g [] [x] t e)]) ∧ Arr W.heap.size w'.heap.size w' v' (eachTwoS g [] [x] t e) (eachTwoD g [] [x] t e) ∧ Below W.heap.size W w') := fun W o' hb hi => eachTwo_impl ⟨none, 0, _, 1, rfl, .inl rfl, hi, Nat.le_refl _, Nat.le_refl _⟩ (k.keep hb) (by simp) (by simp) ht he
  obtain ⟨C, hC⟩ : ∃ C, C = eachTwoC g [] [x] t e := ⟨_, rfl⟩
  obtain ⟨S, hS⟩ : ∃ S, S = eachTwoS g [] [x] t e := ⟨_, rfl⟩
  obtain ⟨D, hD⟩ : ∃ D, D = eachTwoD g [] [x] t e := ⟨_, rfl⟩
  rw [← hC, ← hS, ← hD] at HE
  rw [← hC, ← hS, ← hD]
  have q0 := hq.c0
  have q1 := hq.c1
  have HQ : Hid (q < w.heap.size) := hq.lt
  have u0 : (w.alloc (.cells #[.slice none 0 0, .slice none 0 0] 26)).cell? ⟨o, 0, none⟩ = some (.int .i64 g) := ((bAlloc (Below.refl w.heap.size w) (.cells #[.slice none 0 0, .slice none 0 0] 26)).cell (p := ⟨o, 0, none⟩) ho).trans hg
  have u1 : ((w.alloc (.cells #[.slice none 0 0, .slice none 0 0] 26)).alloc (.cells #[.int .i64 x] 3)).cell? ⟨q, 0, none⟩ = some z := ((bAlloc (bAlloc (Below.refl w.heap.size w) (.cells #[.slice none 0 0, .slice none 0 0] 26)) (.cells #[.int .i64 x] 3)).cell (p := ⟨q, 0, none⟩) hq.lt).trans q0
  have u2 : ((w.alloc (.cells #[.slice none 0 0, .slice none 0 0] 26)).alloc (.cells #[.int .i64 x] 3)).cell? ⟨q, 1, none⟩ = some z' := ((bAlloc (bAlloc (Below.refl w.heap.size w) (.cells #[.slice none 0 0, .slice none 0 0] 26)) (.cells #[.int .i64 x] 3)).cell (p := ⟨q, 1, none⟩) hq.lt).trans q1
  have i1 : Ints ((w.alloc (.cells #[.slice none 0 0, .slice none 0 0] 26)).alloc (.cells #[.int .i64 x] 3)) (some ⟨w.heap.size + 1, 0, none⟩) [x] := by
    have q := ints_new (w.alloc (.cells #[.slice none 0 0, .slice none 0 0] 26)) [x] 3
    rw [show (w.alloc (.cells #[.slice none 0 0, .slice none 0 0] 26)).heap.size = w.heap.size + 1 by simp] at q
    exact q
  have II : Hid (_) := i1
  clear hC hS hD k hq i1
  go_enter Try.func75, Try.ntmps75
  go_wp2_with fail
  refine (HE.out _ _ (bAlloc (bAlloc (Below.refl _ _) _) _) II.out).mono ?_
  rintro r w1 ⟨v1, rfl, ha, hb⟩
  obtain ⟨s1, d1, rfl, p1, p2, p3⟩ := ha
  obtain ⟨ta, tc, rfl, _⟩ := p1.ints
  obtain ⟨da, dc, rfl, _⟩ := p2.ints
  have HB1 : Hid (Below w.heap.size w w1) := bTrans (bAlloc (bAlloc (Below.refl _ _) _) _) hb
  have R1 : Hid (Box w1 w.heap.size (.slice none 0 0) (.slice none 0 0) 26) := (((box_new w _ _ _).keep (bAlloc (Below.refl _ _) _))).keep hb
  have A1 : Hid (Arr (w.heap.size + 1) w1.heap.size w1 (.agg #[.slice ta S.length tc, .slice da D.length dc]) S D) := Arr.mono ⟨_, _, rfl, p1, p2, p3⟩ (by simp) (Nat.le_refl _)
  have LT : Hid (w.heap.size < w1.heap.size) := R1.out.lt
  clear p1 p2 p3 hb HE q0 q1 hg u0 u1 u2
  have y0 := R1.out.c0
  have y1 := R1.out.c1
  have f0 := free_at R1.out 0
  have f1 := free_at R1.out 1
  have HR : Hid (_ = _) := arr_stored (x' := .slice ta S.length tc) (y' := .slice da D.length dc) R1.out
  go_wp2
  refine bodyPost_ret (results_arr_tmp Try.results75 _ _ w.heap.size _ _ rfl HR.out) rfl ?_
  refine ⟨_, rfl, ?_, below_setCell (below_setCell HB1.out (by omega) _ _) (by omega) _ _⟩
  have L1 := LT.out
  exact ((A1.out.setCell (by omega) _ _).setCell (by omega) _ _).mono (by omega) (by simp only [size_setCell]; omega)
set_option maxRecDepth 20000 in
set_option maxHeartbeats 2000000 in
/-- Outer's closure. -/
theorem outer1_impl {g : Int} {d t e : List Int} {w : World} {o q p m k : Nat} {z z' y : Value} {b : Option Addr} {f : Nat} (hw : w.cell? ⟨p, 0, none⟩ = some (.func (.func 75) #[] #[.pointer (some ⟨o, 0, none⟩), .pointer (some ⟨q, 0, none⟩)])) (hm : Box w m y (.slice b d.length f) 26) (hd : Ints w b d) (hp : p < w.heap.size) (hk : k < d.length) (hd3 : d.length ≤ 300)
    (hg : w.cell? ⟨o, 0, none⟩ = some (.int .i64 g)) (ho : o < w.heap.size) (hq : Box w q z z' 26) (hA : ArrI w (.agg #[z, z']) t e) (ht : t.length ≤ 1048576) (he : e.length ≤ 1048576) :
    Calls Try.prog 36 #[.int .i64 (k : Int), .pointer (some ⟨p, 0, none⟩), .pointer (some ⟨m, 0, none⟩)] w fun r w' => ∃ v', r = .returned (.tuple #[v', .int .i64 (eachTwoC g [] [d.getD k 0] t e)]) ∧ Arr w.heap.size w'.heap.size w' v' (eachTwoS g [] [d.getD k 0] t e) (eachTwoD g [] [d.getD k 0] t e) ∧ Below w.heap.size w w' := by
  obtain ⟨x, hx⟩ : ∃ x, x = d.getD k 0 := ⟨_, rfl⟩
  obtain ⟨b1, o1, rfl, hb1, c1⟩ := hd.at hk
  rw [← hx] at c1 ⊢
  have HE : Hid (∀ W, Below w.heap.size w W → Calls Try.prog 75 #[.int .i64 x, .pointer (some ⟨o, 0, none⟩), .pointer (some ⟨q, 0, none⟩)] W fun r w' => ∃ v', r = .returned (.tuple #[v', .int .i64 (eachTwoC g [] [x] t e)]) ∧ Arr W.heap.size w'.heap.size w' v' (eachTwoS g [] [x] t e) (eachTwoD g [] [x] t e) ∧ Below W.heap.size W w') := fun W hb => spread1_impl ((hb.cell (p := ⟨o, 0, none⟩) ho).trans hg) (Nat.lt_of_lt_of_le ho hb.size) (hq.keep hb) (hA.keep hb) ht he
  obtain ⟨C, hC⟩ : ∃ C, C = eachTwoC g [] [x] t e := ⟨_, rfl⟩
  obtain ⟨S, hS⟩ : ∃ S, S = eachTwoS g [] [x] t e := ⟨_, rfl⟩
  obtain ⟨D, hD⟩ : ∃ D, D = eachTwoD g [] [x] t e := ⟨_, rfl⟩
  rw [← hC, ← hS, ← hD] at HE
  rw [← hC, ← hS, ← hD]
  have q1 := hm.c1
  have hki : (k : Int) < (d.length : Int) := by omega
  have lw : p < w.heap.size := hp
  have u0 : (w.alloc (.cells #[.slice none 0 0, .slice none 0 0] 26)).cell? ⟨p, 0, none⟩ = some (.func (.func 75) #[] #[.pointer (some ⟨o, 0, none⟩), .pointer (some ⟨q, 0, none⟩)]) := ((bAlloc (Below.refl w.heap.size w) (.cells #[.slice none 0 0, .slice none 0 0] 26)).cell (p := ⟨p, 0, none⟩) lw).trans hw
  have u1 : (w.alloc (.cells #[.slice none 0 0, .slice none 0 0] 26)).cell? ⟨m, 1, none⟩ = some (.slice (some ⟨b1, o1, none⟩) d.length f) := ((bAlloc (Below.refl w.heap.size w) (.cells #[.slice none 0 0, .slice none 0 0] 26)).cell (p := ⟨m, 1, none⟩) hm.lt).trans q1
  have u2 : (w.alloc (.cells #[.slice none 0 0, .slice none 0 0] 26)).cell? ⟨b1, o1 + k, none⟩ = some (.int .i64 x) := ((bAlloc (Below.refl w.heap.size w) (.cells #[.slice none 0 0, .slice none 0 0] 26)).cell (p := ⟨b1, o1 + k, none⟩) hb1).trans c1
  clear hC hS hD hx hA hq hg hm hd
  have hE := enters_of Try.func75 (by kernel_rfl) rfl
  go_enter Try.func36, Try.ntmps36
  go_wp2_with fail
  have HU : Hid ((w.alloc (.cells #[.slice none 0 0, .slice none 0 0] 26)).cell? ⟨p, 0, none⟩ = some (.func (.func 75) #[] #[.pointer (some ⟨o, 0, none⟩), .pointer (some ⟨q, 0, none⟩)]) ∧ (w.alloc (.cells #[.slice none 0 0, .slice none 0 0] 26)).cell? ⟨m, 1, none⟩ = some (.slice (some ⟨b1, o1, none⟩) d.length f) ∧ (w.alloc (.cells #[.slice none 0 0, .slice none 0 0] 26)).cell? ⟨b1, o1 + k, none⟩ = some (.int .i64 x)) := ⟨u0, u1, u2⟩
  clear HU
  go_region_with (go_at_call 75; refine (HE.out _ ((bAlloc (Below.refl w.heap.size w) (.cells #[.slice none 0 0, .slice none 0 0] 26)).drew)).mono ?_; rintro r w1 ⟨v1, rfl, ha, hb⟩; obtain ⟨s1, d1, rfl, p1, p2, p3⟩ := ha; obtain ⟨ta, tc, rfl, _⟩ := p1.ints; obtain ⟨da, dc, rfl, _⟩ := p2.ints; have HB1 : Hid (Below w.heap.size w w1) := bTrans ((bAlloc (Below.refl w.heap.size w) (.cells #[.slice none 0 0, .slice none 0 0] 26)).drew) hb; have R1 : Hid (Box w1 w.heap.size (.slice none 0 0) (.slice none 0 0) 26) := (((box_new w _ _ _).keep (Below.refl _ _).drew)).keep hb; have A1 : Hid (Arr (w.heap.size + 1) w1.heap.size w1 (.agg #[.slice ta S.length tc, .slice da D.length dc]) S D) := Arr.mono ⟨_, _, rfl, p1, p2, p3⟩ (by simp) (Nat.le_refl _); have LT : Hid (w.heap.size < w1.heap.size) := R1.out.lt; clear p1 p2 p3 hb; have y0 := R1.out.c0; have y1 := R1.out.c1; have f0 := free_at R1.out 0; have f1 := free_at R1.out 1; have HR : Hid (_ = _) := arr_stored (x' := .slice ta S.length tc) (y' := .slice da D.length dc) R1.out)
  all_goals
    go_wp2
    refine bodyPost_ret (results_arr_tmp Try.results36 _ _ w.heap.size _ _ rfl HR.out) rfl ?_
    refine ⟨_, rfl, ?_, below_setCell (below_setCell HB1.out (by omega) _ _) (by omega) _ _⟩
    have L1 := LT.out
    exact ((A1.out.setCell (by omega) _ _).setCell (by omega) _ _).mono (by omega) (by simp only [size_setCell]; omega)
end Go.Proofs.Ytcpgdhffemecbab
namespace Go.Proofs.Ytcpgdhffemecbab
set_option linter.unusedVariables false
theorem chosen_in {s d : List Int} (ho : arrOk s d = true) (hs : s ≠ []) {f : Nat} {φ : Nat → Int} : ∀ (n : Nat), f + n ≤ rowsN s → (∀ k, k < n → φ k = ((f + k : Nat) : Int)) → chosenD s d φ n = (d.drop (f * rowN s)).take (n * rowN s) := by
  have e2 := (rowsN5 ho).2
  intro n
  induction n with
  | zero => intro _ _; simp [chosenD]
  | succ n ih =>
    intro h hφ
    rw [chosenD_succ, ih (by omega) (fun k hk => hφ k (by omega)), Nat.succ_mul, List.take_add, List.drop_drop]
    congr 1
    unfold chosenRow
    rw [hφ n (by omega), if_pos ⟨by omega, by rw [e2]; omega⟩, Int.toNat_natCast]
    unfold rowAt
    rw [Nat.add_mul]
theorem chosen_out {s d : List Int} {φ : Nat → Int} : ∀ (n : Nat), (∀ k, k < n → ¬ (0 ≤ φ k ∧ φ k < s.getD 0 0)) → chosenD s d φ n = List.replicate (n * rowN s) 0 := by
  intro n
  induction n with
  | zero => intro _; simp [chosenD]
  | succ n ih =>
    intro h
    rw [chosenD_succ, ih (fun k hk => h k (by omega))]
    unfold chosenRow
    rw [if_neg (h n (by omega)), List.replicate_append_replicate, Nat.succ_mul]
theorem chosen_add (s d : List Int) (φ : Nat → Int) (m : Nat) : ∀ n, chosenD s d φ (m + n) = chosenD s d φ m ++ chosenD s d (fun k => φ (m + k)) n := by
  intro n
  induction n with
  | zero => simp [chosenD]
  | succ n ih => rw [← Nat.add_assoc, chosenD_succ, ih, chosenD_succ, List.append_assoc]
theorem rowsS_ok {t e : List Int} (h : arrOk t e = true) : arrOk (rowsS t) e = true ∧ rowsS t ≠ [] ∧ vecS t e = rowsS t := by
  unfold rowsS vecS
  by_cases ht : t = []
  · subst ht
    have z := arrOk_size h
    rw [sizeV_0'] at z
    have e1 : e.length = 1 := by omega
    refine ⟨?_, by simp, by rw [if_pos rfl, if_pos rfl, e1]; rfl⟩
    unfold arrOk at *
    rw [if_pos rfl]
    rw [Bool.and_eq_true] at *
    exact ⟨by rw [e1]; decide, h.2⟩
  · rw [if_neg ht, if_neg ht]
    exact ⟨h, ht, rfl⟩
theorem take_chosen {t e : List Int} {x : Int} (h : arrOk t e = true) : chosenD (rowsS t) e (fun k => (if x < 0 then (rowsS t).getD 0 0 + x else 0) + (k : Int)) (manyV x).toNat = takeD x t e := by
  obtain ⟨ho, hs, hv⟩ := rowsS_ok h
  obtain ⟨e1, e2⟩ := rowsN5 ho
  have q := rows5 ho hs
  unfold takeD haveN
  rw [hv]
  generalize hM : (manyV x).toNat = M
  generalize hH : min M (rowsN (rowsS t)) = H
  by_cases hx : 0 ≤ x
  · rw [if_pos hx]
    have : M = H + (M - H) := by omega
    conv => lhs; rw [this]
    rw [chosen_add, chosen_in ho hs (f := 0) H (by omega) (fun k hk => by rw [if_neg (by omega)]; omega), chosen_out (M - H) (fun k hk => by rw [if_neg (by omega), e2]; omega)]
    simp
  · rw [if_neg hx]
    have hm : (M : Int) = -x := by rw [← hM]; unfold manyV; rw [if_neg (by omega)]; omega
    have : M = (M - H) + H := by omega
    conv => lhs; rw [this]
    rw [chosen_add, chosen_out (M - H) (fun k hk => by rw [if_pos (by omega), e2]; omega), chosen_in ho hs (f := rowsN (rowsS t) - H) H (by omega) (fun k hk => by rw [if_pos (by omega), e2]; omega)]
    congr 1
    apply List.take_of_length_le
    rw [List.length_drop, ← q, ← Nat.sub_mul]
    apply Nat.mul_le_mul_right
    omega
theorem drop_chosen {t e : List Int} {x : Int} (h : arrOk t e = true) : chosenD (rowsS t) e (fun k => (if x < 0 then 0 else x) + (k : Int)) (rowsN (vecS t e) - haveN x t e) = dropD x t e := by
  obtain ⟨ho, hs, hv⟩ := rowsS_ok h
  obtain ⟨e1, e2⟩ := rowsN5 ho
  have q := rows5 ho hs
  unfold dropD haveN
  rw [hv]
  generalize hM : (manyV x).toNat = M
  generalize hH : min M (rowsN (rowsS t)) = H
  by_cases hx : 0 ≤ x
  · rw [if_pos hx]
    have hm : (M : Int) = x := by rw [← hM]; unfold manyV; split <;> omega
    by_cases hc : M ≤ rowsN (rowsS t)
    · rw [chosen_in ho hs (f := H) (rowsN (rowsS t) - H) (by omega) (fun k hk => by rw [if_neg (by omega)]; omega)]
      apply List.take_of_length_le
      rw [List.length_drop, ← q, ← Nat.sub_mul]
      exact Nat.le_refl _
    · have hz : rowsN (rowsS t) - H = 0 := by omega
      have hz2 : H = rowsN (rowsS t) := by omega
      rw [hz, hz2, q, List.drop_length]
      rfl
  · rw [if_neg hx]
    rw [chosen_in ho hs (f := 0) (rowsN (rowsS t) - H) (by omega) (fun k hk => by rw [if_pos (by omega)]; omega)]
    simp
theorem drop_count {t e : List Int} {x : Int} (h : arrOk t e = true) : (((rowsN (vecS t e) - haveN x t e : Nat)) : Int) = max (if x < 0 then (rowsS t).getD 0 0 + x else (rowsS t).getD 0 0 - x) 0 := by
  obtain ⟨ho, hs, hv⟩ := rowsS_ok h
  obtain ⟨e1, e2⟩ := rowsN5 ho
  unfold haveN manyV
  rw [hv, e2]
  by_cases hx : x < 0
  · rw [if_pos hx, if_neg (by omega)]; omega
  · rw [if_neg hx]; split <;> omega
end Go.Proofs.Ytcpgdhffemecbab
namespace Go.Proofs.Ytcpgdhffemecbab
open Go.RowKit
set_option linter.unusedVariables false
set_option linter.unusedSimpArgs false
theorem cell_keep6 {w w' : World} {o : Nat} {x : Value} (h : w.cell? ⟨o, 0, none⟩ = some x) (ho : o < w.heap.size) (hb : Below w.heap.size w w') : w'.cell? ⟨o, 0, none⟩ = some x := by rw [hb.cell (p := ⟨o, 0, none⟩) ho]; exact h
theorem from1_impl {N : Int} {k o : Nat} {W : World} (h : W.cell? ⟨o, 0, none⟩ = some (.int .i64 N)) (h0 : -2000000000000 ≤ N) (h1 : N ≤ 2000000000000) (hk : (k : Int) ≤ 300) :
    Calls Try.prog 123 #[.int .i64 (k : Int), .pointer (some ⟨o, 0, none⟩)] W fun r W' => r = .returned (.int .i64 (N + (k : Int))) ∧ W' = W := by
  go_enter Try.func123, Try.ntmps123
  go_wp2
  go_ret
  exact ⟨by go_num, rfl⟩
theorem three5 (w : World) (A B C : Obj) :
    (((w.alloc A).alloc B).alloc C).heap[w.heap.size]? = some A ∧ (((w.alloc A).alloc B).alloc C).heap[w.heap.size + 1]? = some B ∧ (((w.alloc A).alloc B).alloc C).heap[w.heap.size + 1 + 1]? = some C := by
  have e1 := heap_alloc_new w A
  have e2 := heap_alloc_new (w.alloc A) B
  have e3 := heap_alloc_new ((w.alloc A).alloc B) C
  simp only [World.size_alloc] at e2 e3
  refine ⟨?_, ?_, e3⟩
  · rw [heap_alloc_old _ _ (by simp only [World.size_alloc]; omega), heap_alloc_old _ _ (by simp only [World.size_alloc]; omega)]; exact e1
  · rw [heap_alloc_old _ _ (by simp only [World.size_alloc]; omega)]; exact e2
set_option maxRecDepth 20000 in
set_option maxHeartbeats 4000000 in
/-- rowsFrom. -/
theorem from_impl {s d : List Int} {w : World} {v : Value} {N z : Int} {n : Nat} (hzn : z = (n : Int)) (h : ArrI w v s d) (ho : arrOk s d = true) (hs : s ≠ []) (hz : 0 ≤ sizeV ((n : Int) :: s.drop 1)) (h0 : -2000000000000 ≤ N) (h1 : N ≤ 2000000000000) :
    Calls Try.prog 94 #[v, .int .i64 N, .int .i64 z] w fun r w' => ∃ v', r = .returned v' ∧ Arr w.heap.size w'.heap.size w' v' ((n : Int) :: s.drop 1) (chosenD s d (fun k => N + (k : Int)) n) ∧ Below w.heap.size w w' := by
  have hn3 := dim5 hz
  have HCH : Hid (∀ (W : World) (o : Nat), Below w.heap.size w W → W.cell? ⟨o, 0, none⟩ = some (.int .i64 N) → o < W.heap.size → Calls Try.prog 122 #[v, .int .i64 z, .func (.func 123) #[] #[.pointer (some ⟨o, 0, none⟩)]] W fun r w' => ∃ v', r = .returned v' ∧ Arr W.heap.size w'.heap.size w' v' ((n : Int) :: s.drop 1) (chosenD s d (fun k => N + (k : Int)) n) ∧ Below W.heap.size W w') := fun W o hb hc hoW =>
    chosen_impl (s := s) (d := d) (w := W) (v := v) (p := .pointer (some ⟨o, 0, none⟩)) (f := 123) (n := n) (φ := fun k => N + (k : Int)) hzn (enters_of Try.func123 (by kernel_rfl) rfl) (h.keep hb) ho hs hz (fun W' k hk hb' => by
      refine (from1_impl (cell_keep6 hc hoW hb') h0 h1 (by omega)).mono ?_
      rintro r w' ⟨rfl, rfl⟩
      exact ⟨rfl, Below.refl _ _⟩)
  obtain ⟨a, c, b, e, rfl, ia, ib, ga, gb⟩ := h
  generalize (n : Int) :: s.drop 1 = S at *
  generalize chosenD s d (fun k => N + (k : Int)) n = D at *
  clear ia ib ga gb hz ho hs h0 h1 hn3 hzn
  go_enter Try.func94, Try.ntmps94
  have q3 := three5 w (.cells #[.slice a s.length c, .slice b d.length e] 26) (.cells #[.int .i64 N] 3) (.cells #[.slice none 0 0, .slice none 0 0] 26)
  have HQ : Hid (_ ∧ _ ∧ _) := q3
  clear q3
  go_wp2_with fail
  refine (HCH.out _ _ (bAlloc (bAlloc (bAlloc (Below.refl _ _) _) _) _) (cell_at (cs := #[.int .i64 N]) HQ.out.2.1 rfl) (lt_of_heapA HQ.out.2.1)).mono ?_
  rintro r w1 ⟨v', rfl, ha, hb⟩
  obtain ⟨a2, c2, b2, e2, rfl, _, _, _, _⟩ := ha.arrI
  have HA : Hid (Arr (w.heap.size + 1 + 1 + 1) w1.heap.size w1 (.agg #[.slice a2 S.length c2, .slice b2 D.length e2]) S D) := ha.mono (by simp) (Nat.le_refl _)
  have HB : Hid (Below w.heap.size w w1) := bTrans (bAlloc (bAlloc (bAlloc (Below.refl _ _) _) _) _) hb
  have R : Hid (Box w1 (w.heap.size + 1 + 1) (.slice none 0 0) (.slice none 0 0) 26) := Box.keep HQ.out.2.2 hb
  clear ha hb HQ
  have y0 := R.out.c0
  have y1 := R.out.c1
  have f0 : w1.frozen? ⟨w.heap.size + 1 + 1, 0, none⟩ = false := free_at R.out 0
  have f1 : w1.frozen? ⟨w.heap.size + 1 + 1, 1, none⟩ = false := free_at R.out 1
  have HR : Hid (((w1.setCell ⟨w.heap.size + 1 + 1, 0, none⟩ (.slice a2 S.length c2)).setCell ⟨w.heap.size + 1 + 1, 1, none⟩ (.slice b2 D.length e2)).heap[w.heap.size + 1 + 1]? = some (.cells #[.slice a2 S.length c2, .slice b2 D.length e2] 26 (0, 0))) := arr_stored R.out
  go_wp2
  refine bodyPost_ret (v := .agg #[.slice a2 S.length c2, .slice b2 D.length e2]) (results_arr rfl _ _ (w.heap.size + 1 + 1) _ _ rfl HR.out) rfl ?_
  refine ⟨_, rfl, ?_, below_setCell (below_setCell HB.out (by omega) _ _) (by omega) _ _⟩
  exact ((HA.out.setCell (by omega) _ _).setCell (by omega) _ _).mono (by omega) (by simp [size_setCell])
end Go.Proofs.Ytcpgdhffemecbab
namespace Go.Proofs.Ytcpgdhffemecbab
open Go.RowKit
set_option linter.unusedVariables false
set_option linter.unusedSimpArgs false
set_option maxHeartbeats 1000000 in
/-- reducing. -/
theorem reducing_impl (g : Int) (w : World) :
    Calls Try.prog 91 #[.int .i64 g] w fun r w' => r = .returned (.func (.func 119) #[] #[.pointer (some ⟨w.heap.size, 0, none⟩)]) ∧ w' = w.alloc (.cells #[.int .i64 g] 3) := by
  go_enter Try.func91, Try.ntmps91
  go_wp2
  go_ret
  exact ⟨rfl, rfl⟩
set_option maxHeartbeats 1000000 in
/-- scanning. -/
theorem scanning_impl (g : Int) (w : World) :
    Calls Try.prog 53 #[.int .i64 g] w fun r w' => r = .returned (.func (.func 92) #[] #[.pointer (some ⟨w.heap.size + 1, 0, none⟩)]) ∧ w'.cell? ⟨w.heap.size, 0, none⟩ = some (.int .i64 g) ∧ w'.cell? ⟨w.heap.size + 1, 0, none⟩ = some (.func (.func 119) #[] #[.pointer (some ⟨w.heap.size, 0, none⟩)]) ∧ Below w.heap.size w w' ∧ w.heap.size + 2 ≤ w'.heap.size := by
  go_enter Try.func53, Try.ntmps53
  go_wp2_with (go_at_call 91; refine (reducing_impl _ _).mono ?_; rintro r w1 ⟨rfl, hw1⟩; subst hw1)
  go_ret
  refine ⟨rfl, ?_, ?_, bAlloc (bAlloc (Below.refl _ _) _) _, by simp⟩
  · exact cell_at (heap_alloc2_old w _ _) rfl
  · exact cell_at (heap_alloc2_new w _ _) rfl
set_option maxRecDepth 20000 in
set_option maxHeartbeats 4000000 in
/-- The beginning of so many rows, reduced. -/
theorem scan2_impl {g n0 : Int} {t d : List Int} {w : World} {o p q k : Nat} {x y : Value} (hw : w.cell? ⟨p, 0, none⟩ = some (.func (.func 119) #[] #[.pointer (some ⟨o, 0, none⟩)])) (hp : p < w.heap.size) (hg : w.cell? ⟨o, 0, none⟩ = some (.int .i64 g)) (hol : o < w.heap.size) (hq : Box w q x y 26) (hA : ArrI w (.agg #[x, y]) (n0 :: t) d) (ho : arrOk (n0 :: t) d = true) (hk : k < n0.toNat) :
    Calls Try.prog 93 #[.int .i64 (k : Int), .pointer (some ⟨p, 0, none⟩), .pointer (some ⟨q, 0, none⟩)] w fun r w' => ∃ v', r = .returned (.tuple #[v', .int .i64 (scanK g (n0 :: t) d k).1]) ∧ Arr w.heap.size w'.heap.size w' v' (if (scanK g (n0 :: t) d k).1 = 0 then t else []) (scanK g (n0 :: t) d k).2 ∧ Below w.heap.size w w' := by
  obtain ⟨f1, f2, f3⟩ := beg_facts ho hk
  have hh := head_bd ho
  simp only [List.getD_cons_zero] at hh
  have HF : Hid (∀ W, Below w.heap.size w W → Calls Try.prog 94 #[.agg #[x, y], .int .i64 0, .int .i64 ((k : Int) + 1)] W fun r w' => ∃ v', r = .returned v' ∧ Arr W.heap.size w'.heap.size w' v' (((k + 1 : Nat) : Int) :: t) (chosenD (n0 :: t) d (fun j => 0 + (j : Int)) (k + 1)) ∧ Below W.heap.size W w') := fun W hb => from_impl (N := 0) (n := k + 1) (z := (k : Int) + 1) (by simp) (hA.keep hb) ho (by simp) (by exact f1) (by omega) (by omega)
  have HR : Hid (∀ W v, Below w.heap.size w W → ArrI W v (((k + 1 : Nat) : Int) :: t) (chosenD (n0 :: t) d (fun j => 0 + (j : Int)) (k + 1)) → Calls Try.prog 119 #[v, .pointer (some ⟨o, 0, none⟩)] W fun r w' => ∃ v', r = .returned (.tuple #[v', .int .i64 (scanK g (n0 :: t) d k).1]) ∧ Arr W.heap.size w'.heap.size w' v' (if (scanK g (n0 :: t) d k).1 = 0 then t else []) (scanK g (n0 :: t) d k).2 ∧ Below W.heap.size W w') := fun W v hb hv => by
    have q := reduce1_impl hv f2 (by omega) ((hb.cell (p := ⟨o, 0, none⟩) hol).trans hg) (Nat.lt_of_lt_of_le hol hb.size)
    rw [f3] at q
    exact q
  obtain ⟨C, hC⟩ : ∃ C, C = (scanK g (n0 :: t) d k).1 := ⟨_, rfl⟩
  obtain ⟨S, hS⟩ : ∃ S, S = (if (scanK g (n0 :: t) d k).1 = 0 then t else []) := ⟨_, rfl⟩
  obtain ⟨D, hD⟩ : ∃ D, D = (scanK g (n0 :: t) d k).2 := ⟨_, rfl⟩
  rw [← hS, ← hC, ← hD] at HR
  rw [← hS, ← hC, ← hD]
  generalize hX : (((k + 1 : Nat) : Int) :: t) = SX at *
  generalize chosenD (n0 :: t) d (fun j => 0 + (j : Int)) (k + 1) = DX at *
  have hw1 : IntKind.i64.wrap ((k : Int) + 1) = (k : Int) + 1 := by rw [IntKind.wrap_i64]; omega
  have u0 : ∀ O : Obj, (w.alloc O).cell? ⟨p, 0, none⟩ = some (.func (.func 119) #[] #[.pointer (some ⟨o, 0, none⟩)]) := fun O => ((bAlloc (Below.refl w.heap.size w) O).cell (p := ⟨p, 0, none⟩) hp).trans hw
  have u1 : ∀ O : Obj, (w.alloc O).cell? ⟨q, 0, none⟩ = some x := fun O => (hq.keep (bAlloc (Below.refl w.heap.size w) O)).c0
  have u2 : ∀ O : Obj, (w.alloc O).cell? ⟨q, 1, none⟩ = some y := fun O => (hq.keep (bAlloc (Below.refl w.heap.size w) O)).c1
  have HQ : Hid (Box w q x y 26) := hq
  have HP : Hid (w.cell? ⟨p, 0, none⟩ = some (.func (.func 119) #[] #[.pointer (some ⟨o, 0, none⟩)]) ∧ p < w.heap.size) := ⟨hw, hp⟩
  obtain ⟨_, _, _, _, ev, _, _, _, _⟩ := hA
  cases ev
  have hE := enters_of Try.func119 (by kernel_rfl) rfl
  clear hC hS hD hX ho f1 f2 f3 hg hw hq hk
  go_enter Try.func93, Try.ntmps93
  go_wp2_with fail
  go_region_with (first
    | (go_at_call 94; refine (HF.out _ ((bAlloc (Below.refl w.heap.size w) (.cells #[.slice none 0 0, .slice none 0 0] 26)).drew)).mono ?_; rintro r w1 ⟨v1, rfl, ha, hb⟩; have HB1 : Hid (Below w.heap.size w w1) := bTrans ((bAlloc (Below.refl w.heap.size w) (.cells #[.slice none 0 0, .slice none 0 0] 26)).drew) hb; have HA1 : Hid (ArrI w1 v1 SX DX) := ha.arrI; obtain ⟨xa1, xc1, ya1, yc1, rfl, _, _, _, _⟩ := ha.arrI; have R1 : Hid (Box w1 w.heap.size (.slice none 0 0) (.slice none 0 0) 26) := (((box_new w _ _ _).keep (Below.refl _ _).drew)).keep hb; clear ha hb; have h1 := (HB1.out.cell (p := ⟨p, 0, none⟩) HP.out.2).trans HP.out.1; have h2 := (HQ.out.keep HB1.out).c0; have h3 := (HQ.out.keep HB1.out).c1)
    | (go_at_call 119; refine (HR.out _ _ HB1.out HA1.out).mono ?_; rintro r w2 ⟨v2, rfl, ha, hb⟩; obtain ⟨s1, d1, rfl, p1, p2, p3⟩ := ha; obtain ⟨ta, tc, rfl, _⟩ := p1.ints; obtain ⟨da, dc, rfl, _⟩ := p2.ints; have HB2 : Hid (Below w.heap.size w w2) := bTrans HB1.out hb; have R2 : Hid (Box w2 w.heap.size (.slice none 0 0) (.slice none 0 0) 26) := R1.out.keep hb; have LT : Hid (w.heap.size < w1.heap.size) := R1.out.lt; have A2 : Hid (Arr w1.heap.size w2.heap.size w2 (.agg #[.slice ta S.length tc, .slice da D.length dc]) S D) := ⟨_, _, rfl, p1, p2, p3⟩; clear p1 p2 p3 hb; have y0 := R2.out.c0; have y1 := R2.out.c1; have f0 := free_at R2.out 0; have f1 := free_at R2.out 1; have HRR : Hid (_ = _) := arr_stored (x' := .slice ta S.length tc) (y' := .slice da D.length dc) R2.out))
  all_goals
    go_wp2
    refine bodyPost_ret (results_arr_tmp Try.results93 _ _ w.heap.size _ _ rfl HRR.out) rfl ?_
    refine ⟨_, rfl, ?_, below_setCell (below_setCell HB2.out (by omega) _ _) (by omega) _ _⟩
    have L1 := LT.out
    exact ((A2.out.setCell (by omega) _ _).setCell (by omega) _ _).mono (by omega) (by simp only [size_setCell]; omega)
set_option maxRecDepth 20000 in
set_option maxHeartbeats 4000000 in
/-- scanning's closure. -/
theorem scan1_impl {g n0 : Int} {t d : List Int} {w : World} {o p : Nat} {v : Value} (hw : w.cell? ⟨p, 0, none⟩ = some (.func (.func 119) #[] #[.pointer (some ⟨o, 0, none⟩)])) (hp : p < w.heap.size) (hg : w.cell? ⟨o, 0, none⟩ = some (.int .i64 g)) (hol : o < w.heap.size) (hA : ArrI w v (n0 :: t) d) (ho : arrOk (n0 :: t) d = true) (hsg : sign2 g = true) :
    Calls Try.prog 92 #[v, .pointer (some ⟨p, 0, none⟩)] w fun r w' => ∃ v', r = .returned (.tuple #[v', .int .i64 (scanR g (n0 :: t) d).1]) ∧ Arr w.heap.size w'.heap.size w' v' (scanR g (n0 :: t) d).2.1 (scanR g (n0 :: t) d).2.2 ∧ Below w.heap.size w w' := by
  have H : Hid (ArrI w v (n0 :: t) d) := hA
  obtain ⟨a, c, b, e, rfl, h1, _, g1, _⟩ := hA
  obtain ⟨b1, o1, rfl, hb1, c0⟩ := h1.at (k := 0) (by simp)
  have hh := head_bd ho
  simp only [List.getD_cons_zero] at hh c0
  rw [Nat.add_zero] at c0
  obtain ⟨cnt, rfl⟩ : ∃ cnt : Nat, n0 = (cnt : Int) := ⟨n0.toNat, by omega⟩
  have k1 := (sizeV_ok (arrOk_shape ho)).1
  simp at k1
  have er : rowsN ((cnt : Int) :: t) = cnt := by simp [rowsN]
  have ER := scanR_told ⟨ho, hsg⟩ (List.cons_ne_nil (cnt : Int) t)
  rw [er] at ER
  have HCP : Hid (∀ W, Below w.heap.size w W → Calls Try.prog 77 #[.slice (some ⟨b1, o1, none⟩) (t.length + 1) c] W fun r w' => ∃ a' c', r = .returned (.slice a' (t.length + 1) c') ∧ Piece W.heap.size w'.heap.size w' (.slice a' (t.length + 1) c') ((cnt : Int) :: t) ∧ Below W.heap.size W w') := fun W hb => copied_new (l := (cnt : Int) :: t) (IntsI.keep ⟨_, _, rfl, g1, h1⟩ hb) (by simp; omega)
  have HST : Hid (∀ (W : World) (q B E : Nat) (a3 : Option Addr) (c3 : Nat), Below w.heap.size w W → Box W q (.slice (some ⟨b1, o1, none⟩) (t.length + 1) c) (.slice b d.length e) 26 → Piece B E W (.slice a3 (t.length + 1) c3) ((cnt : Int) :: t) → B ≤ W.heap.size → E ≤ W.heap.size →
      Calls Try.prog 35 #[.slice a3 (t.length + 1) c3, .int .i64 (cnt : Int), .func (.func 93) #[] #[.pointer (some ⟨p, 0, none⟩), .pointer (some ⟨q, 0, none⟩)]] W fun r w' => ∃ v', r = .returned (.tuple #[v', .int .i64 (scanR g ((cnt : Int) :: t) d).1]) ∧ Arr B w'.heap.size w' v' (scanR g ((cnt : Int) :: t) d).2.1 (scanR g ((cnt : Int) :: t) d).2.2 ∧ Below W.heap.size W w') := fun W q B E a3 c3 hb hq hS hB hE => by
    rw [ER, mkR_code]
    refine strung_impl (S := (cnt : Int) :: t) (T := fun k => if (scanK g ((cnt : Int) :: t) d k).1 = 0 then t else []) (enters_of Try.func93 (by kernel_rfl) rfl) hS hB hE (arrOk_shape ho) (by omega) (fun k hk => ?_) (fun W' k hk hb' => ?_)
    · have q1 := flat_bound k 300 (fun i => (scanK g ((cnt : Int) :: t) d i).2) (scanK_len ho (by simp))
      have q2 : k * 300 ≤ 300 * 300 := Nat.mul_le_mul_right _ (by omega)
      omega
    · have bb := bTrans hb hb'
      exact scan2_impl ((bb.cell (p := ⟨p, 0, none⟩) hp).trans hw) (Nat.lt_of_lt_of_le hp bb.size) ((bb.cell (p := ⟨o, 0, none⟩) hol).trans hg) (Nat.lt_of_lt_of_le hol bb.size) (hq.keep hb') (H.out.keep bb) ho (by omega)
  obtain ⟨C, hC⟩ : ∃ C, C = (scanR g ((cnt : Int) :: t) d).1 := ⟨_, rfl⟩
  obtain ⟨S, hS⟩ : ∃ S, S = (scanR g ((cnt : Int) :: t) d).2.1 := ⟨_, rfl⟩
  obtain ⟨D, hD⟩ : ∃ D, D = (scanR g ((cnt : Int) :: t) d).2.2 := ⟨_, rfl⟩
  rw [← hS, ← hC, ← hD] at HST
  rw [← hS, ← hC, ← hD]
  obtain ⟨W1, hW1⟩ : ∃ W1, W1 = (w.alloc (.cells #[.slice (some ⟨b1, o1, none⟩) (t.length + 1) c, .slice b d.length e] 26)).alloc (.cells #[.slice none 0 0, .slice none 0 0] 26) := ⟨_, rfl⟩
  have BW1 : Hid (Below w.heap.size w W1) := by rw [hW1]; exact bAlloc (bAlloc (Below.refl _ _) _) _
  have X1 : Hid (Box W1 w.heap.size (.slice (some ⟨b1, o1, none⟩) (t.length + 1) c) (.slice b d.length e) 26) := by rw [hW1]; exact heap_alloc2_old w _ _
  have Y1 : Hid (Box W1 (w.heap.size + 1) (.slice none 0 0) (.slice none 0 0) 26) := by rw [hW1]; exact heap_alloc2_new w _ _
  have z0 := X1.out.c0
  have z1 := X1.out.c1
  have s0 : W1.cell? ⟨b1, o1, none⟩ = some (.int .i64 (cnt : Int)) := (BW1.out.cell (p := ⟨b1, o1, none⟩) hb1).trans c0
  have hl1 : (0 : Int) < (t.length : Int) + 1 := by omega
  have HB1' : Hid (b1 < w.heap.size ∧ w.cell? ⟨b1, o1, none⟩ = some (.int .i64 (cnt : Int))) := ⟨hb1, c0⟩
  clear hC hS hD ER ho hsg h1 g1 hw hg c0 er hb1
  go_enter Try.func92, Try.ntmps92
  go_wp2_with fail
  rw [← hW1]
  clear hW1
  go_region_with (first
    | (go_at_call 77; refine (HCP.out _ (BW1.out.drew)).mono ?_; rintro r w2 ⟨a2, c2, rfl, hpc, hb⟩; have HB2 : Hid (Below W1.heap.size W1 w2) := bTrans ((Below.refl W1.heap.size W1).drew) hb; have HP2 : Hid (Piece W1.heap.size w2.heap.size w2 (.slice a2 (t.length + 1) c2) ((cnt : Int) :: t)) := hpc; clear hpc hb; have y0 := (X1.out.keep HB2.out).c0; have y1 := (X1.out.keep HB2.out).c1; have y2 := ((bTrans BW1.out HB2.out).cell (p := ⟨b1, o1, none⟩) HB1'.out.1).trans HB1'.out.2)
    | (go_at_call 35; refine (HST.out _ _ _ _ _ _ (bTrans BW1.out HB2.out) (X1.out.keep HB2.out) HP2.out HB2.out.size (Nat.le_refl _)).mono ?_; rintro r w3 ⟨v3, rfl, ha, hb⟩; obtain ⟨s1, d1, rfl, p1, p2, p3⟩ := ha; obtain ⟨ta, tc, rfl, _⟩ := p1.ints; obtain ⟨da, dc, rfl, _⟩ := p2.ints; have HB3 : Hid (Below W1.heap.size W1 w3) := bTrans HB2.out hb; have Y3 : Hid (Box w3 (w.heap.size + 1) (.slice none 0 0) (.slice none 0 0) 26) := Y1.out.keep HB3.out; have A3 : Hid (Arr W1.heap.size w3.heap.size w3 (.agg #[.slice ta S.length tc, .slice da D.length dc]) S D) := ⟨_, _, rfl, p1, p2, p3⟩; clear p1 p2 p3 hb; have y3 := Y3.out.c0; have y4 := Y3.out.c1; have f0 := free_at Y3.out 0; have f1 := free_at Y3.out 1; have HRR : Hid (_ = _) := arr_stored (x' := .slice ta S.length tc) (y' := .slice da D.length dc) Y3.out))
  all_goals
    go_wp2
    refine bodyPost_ret (results_arr_tmp Try.results92 _ _ (w.heap.size + 1) _ _ rfl HRR.out) rfl ?_
    refine ⟨_, rfl, ?_, below_setCell (below_setCell (bTrans BW1.out HB3.out) (by omega) _ _) (by omega) _ _⟩
    have L1 := Y1.out.lt
    exact ((A3.out.setCell (by omega) _ _).setCell (by omega) _ _).mono (by omega) (by simp only [size_setCell]; omega)
set_option maxRecDepth 20000 in
set_option maxHeartbeats 4000000 in
/-- alongRows, whatever the operator is. -/
theorem along_impl {g C : Int} {s d S D : List Int} {w : World} {v p : Value} {f : Nat} (hE : ∀ (args : Array Value) (w : World), (callFunc f args).run Try.prog w = .ok (.enter f args) w) (hA : ArrI w v s d) (hs : s.length ≤ 1048576) (hd : d.length ≤ 1048576)
    (hbad : ¬ (sign2 g = true ∧ arrOk s d = true) → C = 1 ∧ S = [] ∧ D = []) (hnil : sign2 g = true ∧ arrOk s d = true → s = [] → C = 0 ∧ S = [] ∧ D = d)
    (hV : ∀ (W : World) (u : Value), sign2 g = true → arrOk s d = true → s ≠ [] → Below w.heap.size w W → ArrI W u s d → Calls Try.prog f #[u, p] W fun r W' => ∃ v', r = .returned (.tuple #[v', .int .i64 C]) ∧ Arr W.heap.size W'.heap.size W' v' S D ∧ Below W.heap.size W W') :
    Calls Try.prog 52 #[.int .i64 g, v, .func (.func f) #[] #[p]] w fun r w' => ∃ v', r = .returned (.tuple #[v', .int .i64 C]) ∧ Arr w.heap.size w'.heap.size w' v' S D ∧ Below w.heap.size w w' := by
  have H : Hid (ArrI w v s d) := hA
  obtain ⟨a, c, b, e, rfl, _, _, _, _⟩ := hA
  have HD : Hid (d.length ≤ 1048576) := hd
  have HS : Hid (s.length ≤ 1048576) := hs
  have HV : Hid (∀ (W : World) (u : Value), sign2 g = true → arrOk s d = true → s ≠ [] → Below w.heap.size w W → ArrI W u s d → Calls Try.prog f #[u, p] W fun r W' => ∃ v', r = .returned (.tuple #[v', .int .i64 C]) ∧ Arr W.heap.size W'.heap.size W' v' S D ∧ Below W.heap.size W W') := hV
  have Hbad : Hid (¬ (sign2 g = true ∧ arrOk s d = true) → C = 1 ∧ S = [] ∧ D = []) := hbad
  have Hnil : Hid (sign2 g = true ∧ arrOk s d = true → s = [] → C = 0 ∧ S = [] ∧ D = d) := hnil
  clear hV hbad hnil hd hs
  obtain ⟨W1, hW1⟩ : ∃ W1, W1 = (w.alloc (.cells #[.slice a s.length c, .slice b d.length e] 26)).alloc (.cells #[.slice none 0 0, .slice none 0 0] 26) := ⟨_, rfl⟩
  have BW1 : Hid (Below w.heap.size w W1) := by rw [hW1]; exact bAlloc (bAlloc (Below.refl _ _) _) _
  have X1 : Hid (Box W1 w.heap.size (.slice a s.length c) (.slice b d.length e) 26) := by rw [hW1]; exact heap_alloc2_old w _ _
  have Y1 : Hid (Box W1 (w.heap.size + 1) (.slice none 0 0) (.slice none 0 0) 26) := by rw [hW1]; exact heap_alloc2_new w _ _
  go_enter Try.func52, Try.ntmps52
  go_wp2_with fail
  rw [← hW1]
  clear hW1
  refine (knownTwo_impl g _).mono ?_
  rintro r w2 ⟨rfl, hb⟩
  have B2 : Hid (Below w.heap.size w w2) := bTrans BW1.out hb
  have X2 : Hid (Box w2 w.heap.size (.slice a s.length c) (.slice b d.length e) 26) := X1.out.keep hb
  have Y2 : Hid (Box w2 (w.heap.size + 1) (.slice none 0 0) (.slice none 0 0) 26) := Y1.out.keep hb
  clear hb
  cases hg : sign2 g with
  | false =>
    obtain ⟨rfl, rfl, rfl⟩ := Hbad.out (by rw [hg]; simp)
    have y3 := Y2.out.c0
    have y4 := Y2.out.c1
    have f0 := free_at Y2.out 0
    have f1 := free_at Y2.out 1
    have HRR : Hid (_ = _) := arr_stored (x' := .slice none 0 0) (y' := .slice none 0 0) Y2.out
    go_wp2
    refine bodyPost_ret (results_arr_tmp Try.results52 _ _ (w.heap.size + 1) _ _ rfl HRR.out) rfl ?_
    exact ⟨_, rfl, arr_zero _ _ _, below_setCell (below_setCell B2.out (by omega) _ _) (by omega) _ _⟩
  | true =>
    have HG : Hid (sign2 g = true) := hg
    have x0 := X2.out.c0
    have x1 := X2.out.c1
    clear hg
    go_wp2_with fail
    refine (arrOk_impl (H.out.keep B2.out) HD.out).mono ?_
    rintro r w3 ⟨rfl, hb⟩
    have B3 : Hid (Below w.heap.size w w3) := bTrans B2.out hb
    have X3 : Hid (Box w3 w.heap.size (.slice a s.length c) (.slice b d.length e) 26) := X2.out.keep hb
    have Y3 : Hid (Box w3 (w.heap.size + 1) (.slice none 0 0) (.slice none 0 0) 26) := Y2.out.keep hb
    clear hb x0 x1
    cases ho : arrOk s d with
    | false =>
      obtain ⟨rfl, rfl, rfl⟩ := Hbad.out (by rw [ho]; simp)
      have y3 := Y3.out.c0
      have y4 := Y3.out.c1
      have f0 := free_at Y3.out 0
      have f1 := free_at Y3.out 1
      have HRR : Hid (_ = _) := arr_stored (x' := .slice none 0 0) (y' := .slice none 0 0) Y3.out
      go_wp2
      refine bodyPost_ret (results_arr_tmp Try.results52 _ _ (w.heap.size + 1) _ _ rfl HRR.out) rfl ?_
      exact ⟨_, rfl, arr_zero _ _ _, below_setCell (below_setCell B3.out (by omega) _ _) (by omega) _ _⟩
    | true =>
      have HO : Hid (arrOk s d = true) := ho
      have L3 : Hid (w.heap.size + 1 < w3.heap.size) := Y3.out.lt
      have x0 := X3.out.c0
      have x1 := X3.out.c1
      clear ho
      by_cases hs0 : s = []
      · obtain ⟨rfl, rfl, rfl⟩ := Hnil.out ⟨HG.out, HO.out⟩ hs0
        subst hs0
        have hl0 : (((0 : Nat) : Int) == 0) = true := rfl
        simp only [List.length_nil] at x0
        go_wp2_with fail
        refine (copyOf_impl (H.out.keep B3.out) HS.out HD.out).mono ?_
        rintro r w4 ⟨v4, rfl, ha, hb⟩
        obtain ⟨xa, xc, ya, yc, rfl, _, _, _, _⟩ := ha.arrI
        have HA : Hid (Arr w3.heap.size w4.heap.size w4 (.agg #[.slice xa 0 xc, .slice ya D.length yc]) [] D) := ha
        have B4 : Hid (Below w.heap.size w w4) := bTrans B3.out hb
        have Y4 : Hid (Box w4 (w.heap.size + 1) (.slice none 0 0) (.slice none 0 0) 26) := Y3.out.keep hb
        clear ha hb x0 x1
        simp only [List.length_nil]
        have y3 := Y4.out.c0
        have y4 := Y4.out.c1
        have f0 := free_at Y4.out 0
        have f1 := free_at Y4.out 1
        have HRR : Hid (_ = _) := arr_stored (x' := .slice xa 0 xc) (y' := .slice ya D.length yc) Y4.out
        go_wp2
        refine bodyPost_ret (results_arr_tmp Try.results52 _ _ (w.heap.size + 1) _ _ rfl HRR.out) rfl ?_
        refine ⟨_, rfl, ?_, below_setCell (below_setCell B4.out (by omega) _ _) (by omega) _ _⟩
        have L := L3.out
        exact ((HA.out.setCell (by omega) _ _).setCell (by omega) _ _).mono (by omega) (by simp only [size_setCell]; omega)
      · have n1 : ((s.length : Int) == 0) = false := by
          have := List.length_pos_iff.2 hs0
          simp; omega
        have HS0 : Hid (s ≠ []) := hs0
        clear hs0
        go_wp2_with fail
        refine (HV.out _ _ HG.out HO.out HS0.out B3.out (H.out.keep B3.out)).mono ?_
        rintro r w4 ⟨v4, rfl, ha, hb⟩
        obtain ⟨xa, xc, ya, yc, rfl, _, _, _, _⟩ := ha.arrI
        have HA : Hid (Arr w3.heap.size w4.heap.size w4 (.agg #[.slice xa S.length xc, .slice ya D.length yc]) S D) := ha
        have B4 : Hid (Below w.heap.size w w4) := bTrans B3.out hb
        have Y4 : Hid (Box w4 (w.heap.size + 1) (.slice none 0 0) (.slice none 0 0) 26) := Y3.out.keep hb
        clear ha hb x0 x1
        have y3 := Y4.out.c0
        have y4 := Y4.out.c1
        have f0 := free_at Y4.out 0
        have f1 := free_at Y4.out 1
        have HRR : Hid (_ = _) := arr_stored (x' := .slice xa S.length xc) (y' := .slice ya D.length yc) Y4.out
        go_wp2
        refine bodyPost_ret (results_arr_tmp Try.results52 _ _ (w.heap.size + 1) _ _ rfl HRR.out) rfl ?_
        refine ⟨_, rfl, ?_, below_setCell (below_setCell B4.out (by omega) _ _) (by omega) _ _⟩
        have L := L3.out
        exact ((HA.out.setCell (by omega) _ _).setCell (by omega) _ _).mono (by omega) (by simp only [size_setCell]; omega)
set_option maxRecDepth 20000 in
set_option maxHeartbeats 4000000 in
/-- Scan. -/
theorem scan_impl {g : Int} {s d : List Int} {w : World} {v : Value} (h : ArrI w v s d) (hs : s.length ≤ 1048576) (hd : d.length ≤ 1048576) :
    Calls Try.prog 17 #[.int .i64 g, v] w fun r w' => ∃ v', r = .returned (.tuple #[v', .int .i64 (scanR g s d).1]) ∧ Arr w.heap.size w'.heap.size w' v' (scanR g s d).2.1 (scanR g s d).2.2 ∧ Below w.heap.size w w' := by
  have H : Hid (ArrI w v s d) := h
  have HAL : Hid (∀ (W : World) (u : Value) (o p : Nat), ArrI W u s d → W.cell? ⟨p, 0, none⟩ = some (.func (.func 119) #[] #[.pointer (some ⟨o, 0, none⟩)]) → p < W.heap.size → W.cell? ⟨o, 0, none⟩ = some (.int .i64 g) → o < W.heap.size → Calls Try.prog 52 #[.int .i64 g, u, .func (.func 92) #[] #[.pointer (some ⟨p, 0, none⟩)]] W fun r w' => ∃ v', r = .returned (.tuple #[v', .int .i64 (scanR g s d).1]) ∧ Arr W.heap.size w'.heap.size w' v' (scanR g s d).2.1 (scanR g s d).2.2 ∧ Below W.heap.size W w') := fun W u o p hu hp lp hg lg => by
    refine along_impl (enters_of Try.func92 (by kernel_rfl) rfl) hu hs hd (fun q => ?_) (fun q e => ?_) (fun W' u' q1 q2 q3 hb hu' => ?_)
    · rw [scanR_bad (fun k => q ⟨k.2, k.1⟩)]; exact ⟨rfl, rfl, rfl⟩
    · subst e; rw [scanR_nil ⟨q.2, q.1⟩]; exact ⟨rfl, rfl, rfl⟩
    · cases s with
      | nil => exact absurd rfl q3
      | cons n0 t => exact scan1_impl ((hb.cell (p := ⟨p, 0, none⟩) lp).trans hp) (Nat.lt_of_lt_of_le lp hb.size) ((hb.cell (p := ⟨o, 0, none⟩) lg).trans hg) (Nat.lt_of_lt_of_le lg hb.size) hu' q2 q1
  obtain ⟨C, hC⟩ : ∃ C, C = (scanR g s d).1 := ⟨_, rfl⟩
  obtain ⟨S, hS⟩ : ∃ S, S = (scanR g s d).2.1 := ⟨_, rfl⟩
  obtain ⟨D, hD⟩ : ∃ D, D = (scanR g s d).2.2 := ⟨_, rfl⟩
  rw [← hS, ← hC, ← hD] at HAL
  rw [← hS, ← hC, ← hD]
  obtain ⟨a, c, b, e, rfl, _, _, _, _⟩ := h
  obtain ⟨W1, hW1⟩ : ∃ W1, W1 = (w.alloc (.cells #[.slice a s.length c, .slice b d.length e] 26)).alloc (.cells #[.slice none 0 0, .slice none 0 0] 26) := ⟨_, rfl⟩
  have BW1 : Hid (Below w.heap.size w W1) := by rw [hW1]; exact bAlloc (bAlloc (Below.refl _ _) _) _
  have X1 : Hid (Box W1 w.heap.size (.slice a s.length c) (.slice b d.length e) 26) := by rw [hW1]; exact heap_alloc2_old w _ _
  have Y1 : Hid (Box W1 (w.heap.size + 1) (.slice none 0 0) (.slice none 0 0) 26) := by rw [hW1]; exact heap_alloc2_new w _ _
  have z0 := X1.out.c0
  have z1 := X1.out.c1
  clear hC hS hD hs hd
  go_enter Try.func17, Try.ntmps17
  go_wp2_with fail
  rw [← hW1]
  clear hW1
  go_region_with (first
    | (go_at_call 53; refine (scanning_impl _ _).mono ?_; rintro r w2 ⟨rfl, hc1, hc2, hb, hsz⟩; have HB2 : Hid (Below W1.heap.size W1 w2) := bTrans ((Below.refl W1.heap.size W1).drew) hb; have HC2 : Hid (_ ∧ _ ∧ _) := ⟨hc1, hc2, hsz⟩; clear hc1 hc2 hb hsz; have y0 := (X1.out.keep HB2.out).c0; have y1 := (X1.out.keep HB2.out).c1)
    | (go_at_call 52; refine (HAL.out _ _ _ _ (H.out.keep (bTrans BW1.out HB2.out)) HC2.out.2.1 (by have := HC2.out.2.2; omega) HC2.out.1 (by have := HC2.out.2.2; omega)).mono ?_; rintro r w3 ⟨v3, rfl, ha, hb⟩; obtain ⟨s1, d1, rfl, p1, p2, p3⟩ := ha; obtain ⟨ta, tc, rfl, _⟩ := p1.ints; obtain ⟨da, dc, rfl, _⟩ := p2.ints; have HB3 : Hid (Below W1.heap.size W1 w3) := bTrans HB2.out hb; have Y3 : Hid (Box w3 (w.heap.size + 1) (.slice none 0 0) (.slice none 0 0) 26) := Y1.out.keep HB3.out; have A3 : Hid (Arr W1.heap.size w3.heap.size w3 (.agg #[.slice ta S.length tc, .slice da D.length dc]) S D) := Arr.mono ⟨_, _, rfl, p1, p2, p3⟩ HB2.out.size (Nat.le_refl _); clear p1 p2 p3 hb; have y3 := Y3.out.c0; have y4 := Y3.out.c1; have f0 := free_at Y3.out 0; have f1 := free_at Y3.out 1; have HRR : Hid (_ = _) := arr_stored (x' := .slice ta S.length tc) (y' := .slice da D.length dc) Y3.out))
  all_goals
    go_wp2
    refine bodyPost_ret (results_arr_tmp Try.results17 _ _ (w.heap.size + 1) _ _ rfl HRR.out) rfl ?_
    refine ⟨_, rfl, ?_, below_setCell (below_setCell (bTrans BW1.out HB3.out) (by omega) _ _) (by omega) _ _⟩
    have L1 := Y1.out.lt
    exact ((A3.out.setCell (by omega) _ _).setCell (by omega) _ _).mono (by omega) (by simp only [size_setCell]; omega)
end Go.Proofs.Ytcpgdhffemecbab
