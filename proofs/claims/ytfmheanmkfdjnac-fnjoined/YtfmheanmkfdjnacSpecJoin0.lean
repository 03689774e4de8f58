/-
  Walks: the specification's Join.
-/
import Derived.Test.YtfmheanmkfdjnacSpecMake1
import Derived.Test.YtfmheanmkfdjnacSpecMake2
import Derived.Test.YtfmheanmkfdjnacMakeQ
import Derived.Test.YtfmheanmkfdjnacGrow
import Derived.Test.YtfmheanmkfdjnacCuts2
import Derived.Deep.Cut
namespace Go.Proofs.Ytfmheanmkfdjnac
open Go.RowKit
set_option linter.unusedVariables false
set_option linter.unusedSimpArgs false
theorem Piece.same {B C : Nat} {w W : World} {v : Value} {l : List Int} (h : Piece B C w v l) (hs : ∀ o, B ≤ o → o < C → W.heap[o]? = w.heap[o]?) : Piece B C W v l := by
  obtain ⟨a, c, rfl, hle, h⟩ := h
  refine ⟨a, c, rfl, hle, ?_⟩
  rcases h with rfl | ⟨g, off, cur, t, rfl, h1, h2, hg, r⟩
  · exact .inl rfl
  · exact .inr ⟨g, off, cur, t, rfl, h1, h2, by rw [hs g h1 h2]; exact hg, r⟩
theorem Arr.same {B C : Nat} {w W : World} {v : Value} {s d : List Int} (h : Arr B C w v s d) (hs : ∀ o, B ≤ o → o < C → W.heap[o]? = w.heap[o]?) : Arr B C W v s d := by
  obtain ⟨x, y, rfl, h1, h2, h3⟩ := h
  exact ⟨x, y, rfl, h1.same hs, h2.same hs, h3⟩
set_option maxRecDepth 20000 in
set_option maxHeartbeats 2000000 in
/-- l5Vector: what it answers stands in every world that keeps the argument and what the call has made. -/
theorem vec6_spec {G : World → Prop} {s d : List Int} {w : World} {v : Value} (hG : ∀ W, G W → ArrI W v s d) (h : ArrI w v s d) (hd : d.length ≤ 1048576) :
    Calls Try.prog 88 #[v] w fun e w' => ∃ x k y l, e = .returned (.agg #[.slice x (vecS s d).length k, .slice y d.length l]) ∧ (∀ W : World, G W → (∀ o, w.heap.size ≤ o → o < w'.heap.size → W.heap[o]? = w'.heap[o]?) → ArrI W (.agg #[.slice x (vecS s d).length k, .slice y d.length l]) (vecS s d) d) ∧ Below w.heap.size w w' := by
  have H : Hid (∀ W, G W → ArrI W v s d) := hG
  obtain ⟨a, c, b, f, rfl, h1, h2, _, _⟩ := h
  have H2 : Hid (Ints w b d) := h2
  have HD : Hid (d.length ≤ 1048576) := hd
  clear h1 h2 hd hG
  by_cases e : s = []
  · subst e
    obtain ⟨Z, hZ⟩ : ∃ Z : List Int, Z = [(d.length : Int)] := ⟨_, rfl⟩
    have EV : vecS [] d = Z := by unfold vecS; rw [if_pos rfl, hZ]
    have HV : Hid (∀ W, Ints W b d → Calls Try.prog 68 #[.slice b d.length f] W fun e w' => ∃ v, e = .returned v ∧ Arr W.heap.size w'.heap.size w' v Z d ∧ Below W.heap.size W w') := fun W h => by rw [hZ]; exact vector_spec f h HD.out
    rw [EV]
    clear EV hZ H
    go_enter Try.func88, Try.ntmps88
    go_wp2_with fail
    refine (HV.out _ (H2.out.keep (bAlloc (bAlloc (Below.refl _ _) _) _))).mono ?_
    rintro r w2 ⟨v', rfl, ha, hb⟩
    obtain ⟨a', c', b', f', rfl, _, _, _, _⟩ := ha.arrI
    have HA : Hid (Arr (w.heap.size + 2) w2.heap.size w2 (.agg #[.slice a' Z.length c', .slice b' d.length f']) Z d) := ha.mono (by simp) (Nat.le_refl _)
    have HB2 : Hid (Below w.heap.size w w2) := bTrans (bAlloc (bAlloc (Below.refl _ _) _) _) hb
    have Y2 : Hid (Box w2 (w.heap.size + 1) (.slice none 0 0) (.slice none 0 0) 26) := (box_new2 w _ _ _ _).keep hb
    clear ha hb
    have y0 := Y2.out.c0
    have y1 := Y2.out.c1
    have f0 : w2.frozen? ⟨w.heap.size + 1, 0, none⟩ = false := free_at Y2.out 0
    have f1 : w2.frozen? ⟨w.heap.size + 1, 1, none⟩ = false := free_at Y2.out 1
    have HR : Hid (((w2.setCell ⟨w.heap.size + 1, 0, none⟩ (.slice a' Z.length c')).setCell ⟨w.heap.size + 1, 1, none⟩ (.slice b' d.length f')).heap[w.heap.size + 1]? = some (.cells #[.slice a' Z.length c', .slice b' d.length f'] 26 (0, 0))) := arr_stored Y2.out
    go_wp2
    refine bodyPost_ret (v := .agg #[.slice a' Z.length c', .slice b' d.length f']) (results_arr rfl _ _ (w.heap.size + 1) _ _ rfl HR.out) rfl ?_
    refine ⟨a', c', b', f', rfl, fun W _ hs => ?_, below_setCell (below_setCell HB2.out (by omega) _ _) (by omega) _ _⟩
    have HA2 := ((HA.out.setCell (g := w.heap.size + 1) (by omega) 0 (.slice a' Z.length c')).setCell (g := w.heap.size + 1) (by omega) 1 (.slice b' d.length f'))
    exact (HA2.same (fun o h1 h2 => hs o (by omega) (by simp only [size_setCell]; omega))).arrI
  · have EV : vecS s d = s := by unfold vecS; rw [if_neg e]
    have n1 : ((s.length : Int) == 0) = false := by
      have := List.length_pos_iff.2 e
      simp; omega
    rw [EV]
    clear EV e
    go_enter Try.func88, Try.ntmps88
    go_wp2
    refine bodyPost_ret (v := .agg #[.slice a s.length c, .slice b d.length f]) (results_arr rfl _ _ (w.heap.size + 1) _ _ rfl (box_new2 w _ _ _ _)) rfl ?_
    exact ⟨a, c, b, f, rfl, fun W hW _ => H.out W hW, bAlloc (bAlloc (Below.refl _ _) _) _⟩
/-- Two arrays put into two blocks of one's own: what stands then. -/
theorem put_rel {w V : World} {q p : Nat} {x y x' y' x0 y0 x1 y1 : Value} {A A' : World → Prop} (hb : Below w.heap.size w V) (hq : w.heap.size ≤ q) (hp : w.heap.size ≤ p) (hne : q ≠ p)
    (bq : Box V q x0 y0 26) (bp : Box V p x1 y1 26) (ga : ∀ W, Below w.heap.size w W → (∀ g, g ≠ q → g ≠ p → W.heap[g]? = V.heap[g]?) → A W) (ga' : ∀ W, Below w.heap.size w W → (∀ g, g ≠ q → g ≠ p → W.heap[g]? = V.heap[g]?) → A' W) :
    Box ((((V.setCell ⟨q, 0, none⟩ x).setCell ⟨q, 1, none⟩ y).setCell ⟨p, 0, none⟩ x').setCell ⟨p, 1, none⟩ y') q x y 26 ∧
    Box ((((V.setCell ⟨q, 0, none⟩ x).setCell ⟨q, 1, none⟩ y).setCell ⟨p, 0, none⟩ x').setCell ⟨p, 1, none⟩ y') p x' y' 26 ∧
    A ((((V.setCell ⟨q, 0, none⟩ x).setCell ⟨q, 1, none⟩ y).setCell ⟨p, 0, none⟩ x').setCell ⟨p, 1, none⟩ y') ∧
    A' ((((V.setCell ⟨q, 0, none⟩ x).setCell ⟨q, 1, none⟩ y).setCell ⟨p, 0, none⟩ x').setCell ⟨p, 1, none⟩ y') ∧
    Below w.heap.size w ((((V.setCell ⟨q, 0, none⟩ x).setCell ⟨q, 1, none⟩ y).setCell ⟨p, 0, none⟩ x').setCell ⟨p, 1, none⟩ y') ∧ w.heap.size ≤ q ∧ w.heap.size ≤ p := by
  have b1 : Box ((V.setCell ⟨q, 0, none⟩ x).setCell ⟨q, 1, none⟩ y) q x y 26 := arr_stored bq
  have hh : ∀ g, g ≠ q → g ≠ p → ((((V.setCell ⟨q, 0, none⟩ x).setCell ⟨q, 1, none⟩ y).setCell ⟨p, 0, none⟩ x').setCell ⟨p, 1, none⟩ y').heap[g]? = V.heap[g]? := fun g h1 h2 => by
    rw [heap_setCell_other _ _ _ _ (by show g ≠ p; exact h2), heap_setCell_other _ _ _ _ (by show g ≠ p; exact h2), heap_setCell_other _ _ _ _ (by show g ≠ q; exact h1), heap_setCell_other _ _ _ _ (by show g ≠ q; exact h1)]
  have b2 : Box ((V.setCell ⟨q, 0, none⟩ x).setCell ⟨q, 1, none⟩ y) p x1 y1 26 := by
    show (((V.setCell ⟨q, 0, none⟩ x).setCell ⟨q, 1, none⟩ y)).heap[p]? = _
    rw [heap_setCell_other _ _ _ _ (by show p ≠ q; exact fun h => hne h.symm), heap_setCell_other _ _ _ _ (by show p ≠ q; exact fun h => hne h.symm)]
    exact bp
  have b3 : Box ((((V.setCell ⟨q, 0, none⟩ x).setCell ⟨q, 1, none⟩ y).setCell ⟨p, 0, none⟩ x').setCell ⟨p, 1, none⟩ y') q x y 26 := by
    show (((((V.setCell ⟨q, 0, none⟩ x).setCell ⟨q, 1, none⟩ y).setCell ⟨p, 0, none⟩ x').setCell ⟨p, 1, none⟩ y')).heap[q]? = _
    rw [heap_setCell_other _ _ _ _ (by show q ≠ p; exact hne), heap_setCell_other _ _ _ _ (by show q ≠ p; exact hne)]
    exact b1
  have bl := below_setCell (below_setCell (below_setCell (below_setCell hb hq (o := 0) x) hq (o := 1) y) hp (o := 0) x') hp (o := 1) y'
  exact ⟨b3, arr_stored b2, ga _ bl hh, ga' _ bl hh, bl, hq, hp⟩
/-- One array put into a block of one's own, the other laid behind it. -/
theorem put_one {w V : World} {q : Nat} {x y x' y' x0 y0 : Value} {A : World → Prop} (hb : Below w.heap.size w V) (hq : w.heap.size ≤ q)
    (bq : Box V q x0 y0 26) (ga : ∀ W, Below w.heap.size w W → (∀ g, g ≠ q → g < V.heap.size → W.heap[g]? = V.heap[g]?) → A W) :
    Box (((V.setCell ⟨q, 0, none⟩ x).setCell ⟨q, 1, none⟩ y).alloc (.cells #[x', y'] 26)) q x y 26 ∧
    Box (((V.setCell ⟨q, 0, none⟩ x).setCell ⟨q, 1, none⟩ y).alloc (.cells #[x', y'] 26)) V.heap.size x' y' 26 ∧
    A (((V.setCell ⟨q, 0, none⟩ x).setCell ⟨q, 1, none⟩ y).alloc (.cells #[x', y'] 26)) ∧
    Below w.heap.size w (((V.setCell ⟨q, 0, none⟩ x).setCell ⟨q, 1, none⟩ y).alloc (.cells #[x', y'] 26)) := by
  have b1 : Box ((V.setCell ⟨q, 0, none⟩ x).setCell ⟨q, 1, none⟩ y) q x y 26 := arr_stored bq
  have bl := bAlloc (below_setCell (below_setCell hb hq (o := 0) x) hq (o := 1) y) (.cells #[x', y'] 26)
  have sz : ((V.setCell ⟨q, 0, none⟩ x).setCell ⟨q, 1, none⟩ y).heap.size = V.heap.size := by simp only [size_setCell]
  have b2 := box_new ((V.setCell ⟨q, 0, none⟩ x).setCell ⟨q, 1, none⟩ y) x' y' 26
  rw [sz] at b2
  refine ⟨b1.keep (bAlloc (Below.refl _ _) _), b2, ga _ bl (fun g h1 h2 => ?_), bl⟩
  rw [Below.heap_alloc _ _ _ (by rw [sz]; exact h2), heap_setCell_other _ _ _ _ (by show g ≠ q; exact h1), heap_setCell_other _ _ _ _ (by show g ≠ q; exact h1)]
end Go.Proofs.Ytfmheanmkfdjnac
namespace Go.Proofs.Ytfmheanmkfdjnac
open Go.RowKit
set_option linter.unusedVariables false
set_option linter.unusedSimpArgs false
set_option maxRecDepth 20000 in
set_option maxHeartbeats 40000000 in
/-- Join. -/
theorem join_spec {s d t e : List Int} {w : World} {v u : Value} (h : ArrI w v s d) (k : ArrI w u t e) (hd : d.length ≤ 1048576) (he : e.length ≤ 1048576) :
    Calls Try.prog 36 #[v, u] w fun r w' => ∃ v', r = .returned (.tuple #[v', .int .i64 (joinR s d t e).1]) ∧ Arr w.heap.size w'.heap.size w' v' (joinR s d t e).2.1 (joinR s d t e).2.2 ∧ Below w.heap.size w w' := by
  have H : Hid (ArrI w v s d) := h
  have K : Hid (ArrI w u t e) := k
  obtain ⟨a, c, b, f, rfl, h1, h2, _, _⟩ := h
  obtain ⟨a', c', b', f', rfl, k1, k2, _, _⟩ := k
  have HD : Hid (d.length ≤ 1048576) := hd
  have HE : Hid (e.length ≤ 1048576) := he
  clear h1 h2 k1 k2 hd he
  by_cases ho : arrOk s d = true
  · have HO : Hid (arrOk s d = true) := ho
    by_cases ho' : arrOk t e = true
    · have HO' : Hid (arrOk t e = true) := ho'
      obtain ⟨m, tl, q1, m0, m1, r1, l1⟩ := rows_cons ho
      obtain ⟨n, tl', q2, n0, n1, r2, l2⟩ := rows_cons ho'
      have hd3 := arrOk_len ho
      have he3 := arrOk_len ho'
      have ER := joinR_told ho ho' q1 q2
      obtain ⟨x, hx⟩ : ∃ x, x = (joinR s d t e).1 := ⟨_, rfl⟩
      obtain ⟨S, hS⟩ : ∃ S, S = (joinR s d t e).2.1 := ⟨_, rfl⟩
      obtain ⟨D, hD⟩ : ∃ D, D = (joinR s d t e).2.2 := ⟨_, rfl⟩
      rw [← hx, ← hS, ← hD]
      rw [ER] at hx hS hD
      obtain ⟨VS, hVS⟩ : ∃ V, V = vecS s d := ⟨_, rfl⟩
      obtain ⟨VT, hVT⟩ : ∃ V, V = vecS t e := ⟨_, rfl⟩
      have HV1 : Hid (∀ W, Below w.heap.size w W → Calls Try.prog 88 #[.agg #[.slice a s.length c, .slice b d.length f]] W fun r w' => ∃ x k y l, r = .returned (.agg #[.slice x VS.length k, .slice y d.length l]) ∧ (∀ W' : World, Below w.heap.size w W' → (∀ o, W.heap.size ≤ o → o < w'.heap.size → W'.heap[o]? = w'.heap[o]?) → ArrI W' (.agg #[.slice x VS.length k, .slice y d.length l]) VS d) ∧ Below W.heap.size W w') := fun W hb => by rw [hVS]; exact vec6_spec (fun W' h => H.out.keep h) (H.out.keep hb) HD.out
      have HV2 : Hid (∀ W, Below w.heap.size w W → Calls Try.prog 88 #[.agg #[.slice a' t.length c', .slice b' e.length f']] W fun r w' => ∃ x k y l, r = .returned (.agg #[.slice x VT.length k, .slice y e.length l]) ∧ (∀ W' : World, Below w.heap.size w W' → (∀ o, W.heap.size ≤ o → o < w'.heap.size → W'.heap[o]? = w'.heap[o]?) → ArrI W' (.agg #[.slice x VT.length k, .slice y e.length l]) VT e) ∧ Below W.heap.size W w') := fun W hb => by rw [hVT]; exact vec6_spec (fun W' h => K.out.keep h) (K.out.keep hb) HE.out
      have QS : Hid (VS = m :: tl) := by show _ = _; rw [hVS, (rowsS_ok ho).2.2]; exact q1
      have QT : Hid (VT = n :: tl') := by show _ = _; rw [hVT, (rowsS_ok ho').2.2]; exact q2
      clear hVS hVT ER ho ho'
      go_enter Try.func36, Try.ntmps36
      go_wp2_with fail
      refine (arrOk_spec (H.out.keep (bAlloc (bAlloc (bAlloc (bAlloc (Below.refl _ _) _) _) _) _)) HD.out).mono ?_
      rintro r w1 ⟨rfl, hb⟩
      have HB1 : Hid (Below w.heap.size w w1) := bTrans (bAlloc (bAlloc (bAlloc (bAlloc (Below.refl _ _) _) _) _) _) hb
      have q1 := blocks4 w (.cells #[.slice a s.length c, .slice b d.length f] 26) (.cells #[.slice a' t.length c', .slice b' e.length f'] 26) (.cells #[.slice none 0 0, .slice none 0 0] 26) (.cells #[.slice none 0 0, .slice none 0 0] 26)
      have X1 : Hid (Box w1 w.heap.size (.slice a s.length c) (.slice b d.length f) 26) := Box.keep q1.1 hb
      have Y1 : Hid (Box w1 (w.heap.size + 1) (.slice a' t.length c') (.slice b' e.length f') 26) := Box.keep q1.2.1 hb
      have R1 : Hid (Box w1 (w.heap.size + 1 + 1) (.slice none 0 0) (.slice none 0 0) 26) := Box.keep q1.2.2.1 hb
      have Z1 : Hid (Box w1 (w.heap.size + 1 + 1 + 1) (.slice none 0 0) (.slice none 0 0) 26) := Box.keep q1.2.2.2 hb
      clear hb q1
      rw [HO.out]
      have x0 := X1.out.c0
      have x1 := X1.out.c1
      have y0 := Y1.out.c0
      have y1 := Y1.out.c1
      have r0 := R1.out.c0
      have r1 := R1.out.c1
      have f0 : w1.frozen? ⟨w.heap.size + 1 + 1, 0, none⟩ = false := free_at R1.out 0
      have f1 : w1.frozen? ⟨w.heap.size + 1 + 1, 1, none⟩ = false := free_at R1.out 1
      have z0 := Z1.out.c0
      have z1 := Z1.out.c1
      go_wp2_with fail
      refine (arrOk_spec (K.out.keep HB1.out) HE.out).mono ?_
      rintro r w2 ⟨rfl, hb⟩
      have HB2 : Hid (Below w.heap.size w w2) := bTrans HB1.out hb
      have X2 : Hid (Box w2 w.heap.size (.slice a s.length c) (.slice b d.length f) 26) := X1.out.keep hb
      have Y2 : Hid (Box w2 (w.heap.size + 1) (.slice a' t.length c') (.slice b' e.length f') 26) := Y1.out.keep hb
      have R2 : Hid (Box w2 (w.heap.size + 1 + 1) (.slice none 0 0) (.slice none 0 0) 26) := R1.out.keep hb
      have Z2 : Hid (Box w2 (w.heap.size + 1 + 1 + 1) (.slice none 0 0) (.slice none 0 0) 26) := Z1.out.keep hb
      rw [HO'.out]
      clear hb x0 x1 y0 y1 r0 r1 z0 z1 f0 f1 X1 Y1 R1 Z1 HB1
      have x0 := X2.out.c0
      have x1 := X2.out.c1
      have y0 := Y2.out.c0
      have y1 := Y2.out.c1
      go_wp2_with fail
      go_cut [7, 8] from 20 (fun p q w' => ∃ (g7 g8 : Nat) (x4 : Option Addr) (k4 : Nat) (y4 : Option Addr) (l4 : Nat) (x5 : Option Addr) (k5 : Nat) (y5 : Option Addr) (l5 : Nat), p = .pointer (some ⟨g7, 0, none⟩) ∧ q = .pointer (some ⟨g8, 0, none⟩) ∧ Box w' g7 (.slice x4 VS.length k4) (.slice y4 d.length l4) 26 ∧ Box w' g8 (.slice x5 VT.length k5) (.slice y5 e.length l5) 26 ∧ ArrI w' (.agg #[.slice x4 VS.length k4, .slice y4 d.length l4]) VS d ∧ ArrI w' (.agg #[.slice x5 VT.length k5, .slice y5 e.length l5]) VT e ∧ Below w2.heap.size w2 w' ∧ w2.heap.size ≤ g7 ∧ w2.heap.size ≤ g8)
      case first =>
        have L2 := Z2.out.lt
        go_region_held3 (fun w' => w'.cell? ⟨w.heap.size, 0, none⟩ = some (.slice a s.length c) ∧ w'.cell? ⟨w.heap.size, 1, none⟩ = some (.slice b d.length f) ∧ w'.cell? ⟨w.heap.size + 1, 0, none⟩ = some (.slice a' t.length c') ∧ w'.cell? ⟨w.heap.size + 1, 1, none⟩ = some (.slice b' e.length f'))
          ((refine ⟨(show Box _ w.heap.size (.slice a s.length c) (.slice b d.length f) 26 from ?_).c0, (show Box _ w.heap.size (.slice a s.length c) (.slice b d.length f) 26 from ?_).c1, (show Box _ (w.heap.size + 1) (.slice a' t.length c') (.slice b' e.length f') 26 from ?_).c0, (show Box _ (w.heap.size + 1) (.slice a' t.length c') (.slice b' e.length f') 26 from ?_).c1⟩ <;> (repeat first | with_reducible exact XB5.out | with_reducible exact YB5.out | with_reducible exact XB4.out | with_reducible exact YB4.out | with_reducible exact X2.out | with_reducible exact Y2.out | with_reducible refine Box.keep ?_ ((Below.refl _ _).drew) | with_reducible refine Box.keep ?_ (bAlloc (Below.refl _ _) _) | with_reducible refine Box.win ?_ (win_setCell _ _ _ _) (.inl (by (try simp); omega)))))
          (first
            | (go_at_call_of 88 (Value.agg #[.slice a s.length c, .slice b d.length f]); refine (HV1.out _ (bTrans HB2.out (by repeat first | with_reducible exact HR5.out | with_reducible exact HR4.out | with_reducible exact (Below.refl _ _).drew | with_reducible exact Below.refl _ _ | with_reducible refine bAlloc ?_ _ | with_reducible refine Below.drew ?_))).mono ?_; rintro r w4 ⟨x4, k4, y4, l4, rfl, h4, hb⟩; have HR4 : Hid (Below w2.heap.size w2 w4) := bTrans (by repeat first | with_reducible exact HR5.out | with_reducible exact HR4.out | with_reducible exact (Below.refl _ _).drew | with_reducible exact Below.refl _ _ | with_reducible refine bAlloc ?_ _ | with_reducible refine Below.drew ?_) hb; have I4 : Hid (∀ W' : World, _ → _ → _) := h4; have s4 : w2.heap.size ≤ w4.heap.size := HR4.out.size; have XB4 : Hid (Box w4 w.heap.size (.slice a s.length c) (.slice b d.length f) 26) := X2.out.keep HR4.out; have YB4 : Hid (Box w4 (w.heap.size + 1) (.slice a' t.length c') (.slice b' e.length f') 26) := Y2.out.keep HR4.out; (try have p0 : Hid (Box w4 w2.heap.size (.slice none 0 0) (.slice none 0 0) 26) := Box.keep (w := World.drew (World.alloc w2 (.cells #[.slice none 0 0, .slice none 0 0] 26))) (box_new w2 _ _ _) hb); (try have p0 : Hid (Box w4 w2.heap.size (.slice none 0 0) (.slice none 0 0) 26) := Box.keep (w := World.drew (World.alloc (World.alloc w2 (.cells #[.slice none 0 0, .slice none 0 0] 26)) (.cells #[.slice none 0 0, .slice none 0 0] 26))) (heap_alloc2_old w2 _ _) hb); (try have p1 : Hid (Box w4 (w2.heap.size + 1) (.slice none 0 0) (.slice none 0 0) 26) := Box.keep (w := World.drew (World.alloc (World.alloc w2 (.cells #[.slice none 0 0, .slice none 0 0] 26)) (.cells #[.slice none 0 0, .slice none 0 0] 26))) (heap_alloc2_new w2 _ _) hb); clear h4 hb)
            | (go_at_call_of 88 (Value.agg #[.slice a' t.length c', .slice b' e.length f']); refine (HV2.out _ (bTrans HB2.out (by repeat first | with_reducible exact HR5.out | with_reducible exact HR4.out | with_reducible exact (Below.refl _ _).drew | with_reducible exact Below.refl _ _ | with_reducible refine bAlloc ?_ _ | with_reducible refine Below.drew ?_))).mono ?_; rintro r w5 ⟨x5, k5, y5, l5, rfl, h5, hb⟩; have HR5 : Hid (Below w2.heap.size w2 w5) := bTrans (by repeat first | with_reducible exact HR5.out | with_reducible exact HR4.out | with_reducible exact (Below.refl _ _).drew | with_reducible exact Below.refl _ _ | with_reducible refine bAlloc ?_ _ | with_reducible refine Below.drew ?_) hb; have HR45 : Hid (Below w4.heap.size w4 w5) := bTrans (by repeat first | exact Below.refl _ _ | refine bAlloc ?_ _) hb; have I5 : Hid (∀ W' : World, _ → _ → _) := h5; have s5 : w4.heap.size ≤ w5.heap.size := HR45.out.size; have XB5 : Hid (Box w5 w.heap.size (.slice a s.length c) (.slice b d.length f) 26) := X2.out.keep HR5.out; have YB5 : Hid (Box w5 (w.heap.size + 1) (.slice a' t.length c') (.slice b' e.length f') 26) := Y2.out.keep HR5.out; (try have P0 : Hid (Box w5 w2.heap.size (.slice none 0 0) (.slice none 0 0) 26) := p0.out.keep HR45.out); (try have P1 : Hid (Box w5 (w2.heap.size + 1) (.slice none 0 0) (.slice none 0 0) 26) := p1.out.keep HR45.out); (try have Q0 : Hid (Box w5 w4.heap.size (.slice none 0 0) (.slice none 0 0) 26) := Box.keep (w := World.alloc w4 (.cells #[.slice none 0 0, .slice none 0 0] 26)) (box_new w4 _ _ _) hb); (try have Q0 : Hid (Box w5 w4.heap.size (.slice none 0 0) (.slice none 0 0) 26) := Box.keep (w := World.alloc (World.alloc w4 (.cells #[.slice none 0 0, .slice none 0 0] 26)) (.cells #[.slice none 0 0, .slice none 0 0] 26)) (heap_alloc2_old w4 _ _) hb); (try have Q1 : Hid (Box w5 (w4.heap.size + 1) (.slice none 0 0) (.slice none 0 0) 26) := Box.keep (w := World.alloc (World.alloc w4 (.cells #[.slice none 0 0, .slice none 0 0] 26)) (.cells #[.slice none 0 0, .slice none 0 0] 26)) (heap_alloc2_new w4 _ _) hb); (try have e4 := p0.out.lt); (try have e5 := p1.out.lt); (try have P0c0 := P0.out.c0); (try have P0c1 := P0.out.c1); (try have P0d0 := (fun O : Obj => (P0.out.keep (bAlloc (Below.refl _ _) O)).c0)); (try have P0d1 := (fun O : Obj => (P0.out.keep (bAlloc (Below.refl _ _) O)).c1)); (try have P0f0 : w5.frozen? ⟨w2.heap.size, 0, none⟩ = false := free_at P0.out 0); (try have P0f1 : w5.frozen? ⟨w2.heap.size, 1, none⟩ = false := free_at P0.out 1); (try have P0g0 : ∀ O : Obj, (w5.alloc O).frozen? ⟨w2.heap.size, 0, none⟩ = false := fun O => free_at (P0.out.keep (bAlloc (Below.refl _ _) O)) 0); (try have P0g1 : ∀ O : Obj, (w5.alloc O).frozen? ⟨w2.heap.size, 1, none⟩ = false := fun O => free_at (P0.out.keep (bAlloc (Below.refl _ _) O)) 1); (try have P0l := P0.out.lt); (try have P1c0 := P1.out.c0); (try have P1c1 := P1.out.c1); (try have P1d0 := (fun O : Obj => (P1.out.keep (bAlloc (Below.refl _ _) O)).c0)); (try have P1d1 := (fun O : Obj => (P1.out.keep (bAlloc (Below.refl _ _) O)).c1)); (try have P1f0 : w5.frozen? ⟨w2.heap.size + 1, 0, none⟩ = false := free_at P1.out 0); (try have P1f1 : w5.frozen? ⟨w2.heap.size + 1, 1, none⟩ = false := free_at P1.out 1); (try have P1g0 : ∀ O : Obj, (w5.alloc O).frozen? ⟨w2.heap.size + 1, 0, none⟩ = false := fun O => free_at (P1.out.keep (bAlloc (Below.refl _ _) O)) 0); (try have P1g1 : ∀ O : Obj, (w5.alloc O).frozen? ⟨w2.heap.size + 1, 1, none⟩ = false := fun O => free_at (P1.out.keep (bAlloc (Below.refl _ _) O)) 1); (try have P1l := P1.out.lt); (try have Q0c0 := Q0.out.c0); (try have Q0c1 := Q0.out.c1); (try have Q0d0 := (fun O : Obj => (Q0.out.keep (bAlloc (Below.refl _ _) O)).c0)); (try have Q0d1 := (fun O : Obj => (Q0.out.keep (bAlloc (Below.refl _ _) O)).c1)); (try have Q0f0 : w5.frozen? ⟨w4.heap.size, 0, none⟩ = false := free_at Q0.out 0); (try have Q0f1 : w5.frozen? ⟨w4.heap.size, 1, none⟩ = false := free_at Q0.out 1); (try have Q0g0 : ∀ O : Obj, (w5.alloc O).frozen? ⟨w4.heap.size, 0, none⟩ = false := fun O => free_at (Q0.out.keep (bAlloc (Below.refl _ _) O)) 0); (try have Q0g1 : ∀ O : Obj, (w5.alloc O).frozen? ⟨w4.heap.size, 1, none⟩ = false := fun O => free_at (Q0.out.keep (bAlloc (Below.refl _ _) O)) 1); (try have Q0l := Q0.out.lt); (try have Q1c0 := Q1.out.c0); (try have Q1c1 := Q1.out.c1); (try have Q1d0 := (fun O : Obj => (Q1.out.keep (bAlloc (Below.refl _ _) O)).c0)); (try have Q1d1 := (fun O : Obj => (Q1.out.keep (bAlloc (Below.refl _ _) O)).c1)); (try have Q1f0 : w5.frozen? ⟨w4.heap.size + 1, 0, none⟩ = false := free_at Q1.out 0); (try have Q1f1 : w5.frozen? ⟨w4.heap.size + 1, 1, none⟩ = false := free_at Q1.out 1); (try have Q1g0 : ∀ O : Obj, (w5.alloc O).frozen? ⟨w4.heap.size + 1, 0, none⟩ = false := fun O => free_at (Q1.out.keep (bAlloc (Below.refl _ _) O)) 0); (try have Q1g1 : ∀ O : Obj, (w5.alloc O).frozen? ⟨w4.heap.size + 1, 1, none⟩ = false := fun O => free_at (Q1.out.keep (bAlloc (Below.refl _ _) O)) 1); (try have Q1l := Q1.out.lt); clear h5 hb))
        all_goals
          go_wp2_with fail
          go_meet
          case rel =>
            first
              | (refine ⟨w2.heap.size, (w2.heap.size + 1), x4, k4, y4, l4, x5, k5, y5, l5, by with_reducible rfl, by with_reducible rfl, ?_⟩; have qq := put_rel (A := fun W => ArrI W (.agg #[.slice x4 VS.length k4, .slice y4 d.length l4]) VS d) (A' := fun W => ArrI W (.agg #[.slice x5 VT.length k5, .slice y5 e.length l5]) VT e) (w := w2) (V := w5) (q := w2.heap.size) (p := (w2.heap.size + 1)) (x := .slice x4 VS.length k4) (y := .slice y4 d.length l4) (x' := .slice x5 VT.length k5) (y' := .slice y5 e.length l5) HR5.out (by omega) (by omega) (by omega) P0.out P1.out (fun W hw hh => I4.out W (bTrans HB2.out hw) (fun o h1 h2 => (hh o (by (try simp at h1); omega) (by (try simp at h1); omega)).trans (HR45.out.block o h2))) (fun W hw hh => I5.out W (bTrans HB2.out hw) (fun o h1 h2 => hh o (by (try simp at h1); omega) (by (try simp at h1); omega))); with_reducible exact qq)
              | (refine ⟨w2.heap.size, (w2.heap.size + 1), x4, k4, y4, l4, x5, k5, y5, l5, by with_reducible rfl, by with_reducible rfl, ?_⟩; have qq := put_rel (A' := fun W => ArrI W (.agg #[.slice x4 VS.length k4, .slice y4 d.length l4]) VS d) (A := fun W => ArrI W (.agg #[.slice x5 VT.length k5, .slice y5 e.length l5]) VT e) (w := w2) (V := w5) (q := (w2.heap.size + 1)) (p := w2.heap.size) (x := .slice x5 VT.length k5) (y := .slice y5 e.length l5) (x' := .slice x4 VS.length k4) (y' := .slice y4 d.length l4) HR5.out (by omega) (by omega) (by omega) P1.out P0.out (fun W hw hh => I5.out W (bTrans HB2.out hw) (fun o h1 h2 => hh o (by (try simp at h1); omega) (by (try simp at h1); omega))) (fun W hw hh => I4.out W (bTrans HB2.out hw) (fun o h1 h2 => (hh o (by (try simp at h1); omega) (by (try simp at h1); omega)).trans (HR45.out.block o h2))); with_reducible exact ⟨qq.2.1, qq.1, qq.2.2.2.1, qq.2.2.1, qq.2.2.2.2.1, qq.2.2.2.2.2.2, qq.2.2.2.2.2.1⟩)
              | (refine ⟨(w2.heap.size + 1), w2.heap.size, x4, k4, y4, l4, x5, k5, y5, l5, by with_reducible rfl, by with_reducible rfl, ?_⟩; have qq := put_rel (A := fun W => ArrI W (.agg #[.slice x4 VS.length k4, .slice y4 d.length l4]) VS d) (A' := fun W => ArrI W (.agg #[.slice x5 VT.length k5, .slice y5 e.length l5]) VT e) (w := w2) (V := w5) (q := (w2.heap.size + 1)) (p := w2.heap.size) (x := .slice x4 VS.length k4) (y := .slice y4 d.length l4) (x' := .slice x5 VT.length k5) (y' := .slice y5 e.length l5) HR5.out (by omega) (by omega) (by omega) P1.out P0.out (fun W hw hh => I4.out W (bTrans HB2.out hw) (fun o h1 h2 => (hh o (by (try simp at h1); omega) (by (try simp at h1); omega)).trans (HR45.out.block o h2))) (fun W hw hh => I5.out W (bTrans HB2.out hw) (fun o h1 h2 => hh o (by (try simp at h1); omega) (by (try simp at h1); omega))); with_reducible exact qq)
              | (refine ⟨(w2.heap.size + 1), w2.heap.size, x4, k4, y4, l4, x5, k5, y5, l5, by with_reducible rfl, by with_reducible rfl, ?_⟩; have qq := put_rel (A' := fun W => ArrI W (.agg #[.slice x4 VS.length k4, .slice y4 d.length l4]) VS d) (A := fun W => ArrI W (.agg #[.slice x5 VT.length k5, .slice y5 e.length l5]) VT e) (w := w2) (V := w5) (q := w2.heap.size) (p := (w2.heap.size + 1)) (x := .slice x5 VT.length k5) (y := .slice y5 e.length l5) (x' := .slice x4 VS.length k4) (y' := .slice y4 d.length l4) HR5.out (by omega) (by omega) (by omega) P0.out P1.out (fun W hw hh => I5.out W (bTrans HB2.out hw) (fun o h1 h2 => hh o (by (try simp at h1); omega) (by (try simp at h1); omega))) (fun W hw hh => I4.out W (bTrans HB2.out hw) (fun o h1 h2 => (hh o (by (try simp at h1); omega) (by (try simp at h1); omega)).trans (HR45.out.block o h2))); with_reducible exact ⟨qq.2.1, qq.1, qq.2.2.2.1, qq.2.2.1, qq.2.2.2.2.1, qq.2.2.2.2.2.2, qq.2.2.2.2.2.1⟩)
              | (refine ⟨w2.heap.size, w4.heap.size, x4, k4, y4, l4, x5, k5, y5, l5, by with_reducible rfl, by with_reducible rfl, ?_⟩; have qq := put_rel (A := fun W => ArrI W (.agg #[.slice x4 VS.length k4, .slice y4 d.length l4]) VS d) (A' := fun W => ArrI W (.agg #[.slice x5 VT.length k5, .slice y5 e.length l5]) VT e) (w := w2) (V := w5) (q := w2.heap.size) (p := w4.heap.size) (x := .slice x4 VS.length k4) (y := .slice y4 d.length l4) (x' := .slice x5 VT.length k5) (y' := .slice y5 e.length l5) HR5.out (by omega) (by omega) (by omega) P0.out Q0.out (fun W hw hh => I4.out W (bTrans HB2.out hw) (fun o h1 h2 => (hh o (by (try simp at h1); omega) (by (try simp at h1); omega)).trans (HR45.out.block o h2))) (fun W hw hh => I5.out W (bTrans HB2.out hw) (fun o h1 h2 => hh o (by (try simp at h1); omega) (by (try simp at h1); omega))); with_reducible exact qq)
              | (refine ⟨w2.heap.size, w4.heap.size, x4, k4, y4, l4, x5, k5, y5, l5, by with_reducible rfl, by with_reducible rfl, ?_⟩; have qq := put_rel (A' := fun W => ArrI W (.agg #[.slice x4 VS.length k4, .slice y4 d.length l4]) VS d) (A := fun W => ArrI W (.agg #[.slice x5 VT.length k5, .slice y5 e.length l5]) VT e) (w := w2) (V := w5) (q := w4.heap.size) (p := w2.heap.size) (x := .slice x5 VT.length k5) (y := .slice y5 e.length l5) (x' := .slice x4 VS.length k4) (y' := .slice y4 d.length l4) HR5.out (by omega) (by omega) (by omega) Q0.out P0.out (fun W hw hh => I5.out W (bTrans HB2.out hw) (fun o h1 h2 => hh o (by (try simp at h1); omega) (by (try simp at h1); omega))) (fun W hw hh => I4.out W (bTrans HB2.out hw) (fun o h1 h2 => (hh o (by (try simp at h1); omega) (by (try simp at h1); omega)).trans (HR45.out.block o h2))); with_reducible exact ⟨qq.2.1, qq.1, qq.2.2.2.1, qq.2.2.1, qq.2.2.2.2.1, qq.2.2.2.2.2.2, qq.2.2.2.2.2.1⟩)
              | (refine ⟨w2.heap.size, w5.heap.size, x4, k4, y4, l4, x5, k5, y5, l5, by with_reducible rfl, by with_reducible rfl, ?_⟩; obtain ⟨q1, q2, q3, q4⟩ := put_one (A := fun W => ArrI W (.agg #[.slice x4 VS.length k4, .slice y4 d.length l4]) VS d ∧ ArrI W (.agg #[.slice x5 VT.length k5, .slice y5 e.length l5]) VT e) (w := w2) (V := w5) (q := w2.heap.size) (x := .slice x4 VS.length k4) (y := .slice y4 d.length l4) (x' := .slice x5 VT.length k5) (y' := .slice y5 e.length l5) HR5.out (by omega) P0.out (fun W hw hh => ⟨I4.out W (bTrans HB2.out hw) (fun o h1 h2 => (hh o (by (try simp at h1); omega) (by omega)).trans (HR45.out.block o h2)), I5.out W (bTrans HB2.out hw) (fun o h1 h2 => hh o (by (try simp at h1); omega) h2)⟩); have q5 : w2.heap.size ≤ w2.heap.size := (by omega); have q6 : w2.heap.size ≤ w5.heap.size := (by omega); with_reducible exact ⟨q1, q2, q3.1, q3.2, q4, q5, q6⟩)
              | (refine ⟨w4.heap.size, w2.heap.size, x4, k4, y4, l4, x5, k5, y5, l5, by with_reducible rfl, by with_reducible rfl, ?_⟩; have qq := put_rel (A := fun W => ArrI W (.agg #[.slice x4 VS.length k4, .slice y4 d.length l4]) VS d) (A' := fun W => ArrI W (.agg #[.slice x5 VT.length k5, .slice y5 e.length l5]) VT e) (w := w2) (V := w5) (q := w4.heap.size) (p := w2.heap.size) (x := .slice x4 VS.length k4) (y := .slice y4 d.length l4) (x' := .slice x5 VT.length k5) (y' := .slice y5 e.length l5) HR5.out (by omega) (by omega) (by omega) Q0.out P0.out (fun W hw hh => I4.out W (bTrans HB2.out hw) (fun o h1 h2 => (hh o (by (try simp at h1); omega) (by (try simp at h1); omega)).trans (HR45.out.block o h2))) (fun W hw hh => I5.out W (bTrans HB2.out hw) (fun o h1 h2 => hh o (by (try simp at h1); omega) (by (try simp at h1); omega))); with_reducible exact qq)
              | (refine ⟨w4.heap.size, w2.heap.size, x4, k4, y4, l4, x5, k5, y5, l5, by with_reducible rfl, by with_reducible rfl, ?_⟩; have qq := put_rel (A' := fun W => ArrI W (.agg #[.slice x4 VS.length k4, .slice y4 d.length l4]) VS d) (A := fun W => ArrI W (.agg #[.slice x5 VT.length k5, .slice y5 e.length l5]) VT e) (w := w2) (V := w5) (q := w2.heap.size) (p := w4.heap.size) (x := .slice x5 VT.length k5) (y := .slice y5 e.length l5) (x' := .slice x4 VS.length k4) (y' := .slice y4 d.length l4) HR5.out (by omega) (by omega) (by omega) P0.out Q0.out (fun W hw hh => I5.out W (bTrans HB2.out hw) (fun o h1 h2 => hh o (by (try simp at h1); omega) (by (try simp at h1); omega))) (fun W hw hh => I4.out W (bTrans HB2.out hw) (fun o h1 h2 => (hh o (by (try simp at h1); omega) (by (try simp at h1); omega)).trans (HR45.out.block o h2))); with_reducible exact ⟨qq.2.1, qq.1, qq.2.2.2.1, qq.2.2.1, qq.2.2.2.2.1, qq.2.2.2.2.2.2, qq.2.2.2.2.2.1⟩)
              | (refine ⟨w4.heap.size, (w4.heap.size + 1), x4, k4, y4, l4, x5, k5, y5, l5, by with_reducible rfl, by with_reducible rfl, ?_⟩; have qq := put_rel (A := fun W => ArrI W (.agg #[.slice x4 VS.length k4, .slice y4 d.length l4]) VS d) (A' := fun W => ArrI W (.agg #[.slice x5 VT.length k5, .slice y5 e.length l5]) VT e) (w := w2) (V := w5) (q := w4.heap.size) (p := (w4.heap.size + 1)) (x := .slice x4 VS.length k4) (y := .slice y4 d.length l4) (x' := .slice x5 VT.length k5) (y' := .slice y5 e.length l5) HR5.out (by omega) (by omega) (by omega) Q0.out Q1.out (fun W hw hh => I4.out W (bTrans HB2.out hw) (fun o h1 h2 => (hh o (by (try simp at h1); omega) (by (try simp at h1); omega)).trans (HR45.out.block o h2))) (fun W hw hh => I5.out W (bTrans HB2.out hw) (fun o h1 h2 => hh o (by (try simp at h1); omega) (by (try simp at h1); omega))); with_reducible exact qq)
              | (refine ⟨w4.heap.size, (w4.heap.size + 1), x4, k4, y4, l4, x5, k5, y5, l5, by with_reducible rfl, by with_reducible rfl, ?_⟩; have qq := put_rel (A' := fun W => ArrI W (.agg #[.slice x4 VS.length k4, .slice y4 d.length l4]) VS d) (A := fun W => ArrI W (.agg #[.slice x5 VT.length k5, .slice y5 e.length l5]) VT e) (w := w2) (V := w5) (q := (w4.heap.size + 1)) (p := w4.heap.size) (x := .slice x5 VT.length k5) (y := .slice y5 e.length l5) (x' := .slice x4 VS.length k4) (y' := .slice y4 d.length l4) HR5.out (by omega) (by omega) (by omega) Q1.out Q0.out (fun W hw hh => I5.out W (bTrans HB2.out hw) (fun o h1 h2 => hh o (by (try simp at h1); omega) (by (try simp at h1); omega))) (fun W hw hh => I4.out W (bTrans HB2.out hw) (fun o h1 h2 => (hh o (by (try simp at h1); omega) (by (try simp at h1); omega)).trans (HR45.out.block o h2))); with_reducible exact ⟨qq.2.1, qq.1, qq.2.2.2.1, qq.2.2.1, qq.2.2.2.2.1, qq.2.2.2.2.2.2, qq.2.2.2.2.2.1⟩)
              | (refine ⟨(w4.heap.size + 1), w4.heap.size, x4, k4, y4, l4, x5, k5, y5, l5, by with_reducible rfl, by with_reducible rfl, ?_⟩; have qq := put_rel (A := fun W => ArrI W (.agg #[.slice x4 VS.length k4, .slice y4 d.length l4]) VS d) (A' := fun W => ArrI W (.agg #[.slice x5 VT.length k5, .slice y5 e.length l5]) VT e) (w := w2) (V := w5) (q := (w4.heap.size + 1)) (p := w4.heap.size) (x := .slice x4 VS.length k4) (y := .slice y4 d.length l4) (x' := .slice x5 VT.length k5) (y' := .slice y5 e.length l5) HR5.out (by omega) (by omega) (by omega) Q1.out Q0.out (fun W hw hh => I4.out W (bTrans HB2.out hw) (fun o h1 h2 => (hh o (by (try simp at h1); omega) (by (try simp at h1); omega)).trans (HR45.out.block o h2))) (fun W hw hh => I5.out W (bTrans HB2.out hw) (fun o h1 h2 => hh o (by (try simp at h1); omega) (by (try simp at h1); omega))); with_reducible exact qq)
              | (refine ⟨(w4.heap.size + 1), w4.heap.size, x4, k4, y4, l4, x5, k5, y5, l5, by with_reducible rfl, by with_reducible rfl, ?_⟩; have qq := put_rel (A' := fun W => ArrI W (.agg #[.slice x4 VS.length k4, .slice y4 d.length l4]) VS d) (A := fun W => ArrI W (.agg #[.slice x5 VT.length k5, .slice y5 e.length l5]) VT e) (w := w2) (V := w5) (q := w4.heap.size) (p := (w4.heap.size + 1)) (x := .slice x5 VT.length k5) (y := .slice y5 e.length l5) (x' := .slice x4 VS.length k4) (y' := .slice y4 d.length l4) HR5.out (by omega) (by omega) (by omega) Q0.out Q1.out (fun W hw hh => I5.out W (bTrans HB2.out hw) (fun o h1 h2 => hh o (by (try simp at h1); omega) (by (try simp at h1); omega))) (fun W hw hh => I4.out W (bTrans HB2.out hw) (fun o h1 h2 => (hh o (by (try simp at h1); omega) (by (try simp at h1); omega)).trans (HR45.out.block o h2))); with_reducible exact ⟨qq.2.1, qq.1, qq.2.2.2.1, qq.2.2.1, qq.2.2.2.2.1, qq.2.2.2.2.2.2, qq.2.2.2.2.2.1⟩)
              | (refine ⟨w4.heap.size, w5.heap.size, x4, k4, y4, l4, x5, k5, y5, l5, by with_reducible rfl, by with_reducible rfl, ?_⟩; obtain ⟨q1, q2, q3, q4⟩ := put_one (A := fun W => ArrI W (.agg #[.slice x4 VS.length k4, .slice y4 d.length l4]) VS d ∧ ArrI W (.agg #[.slice x5 VT.length k5, .slice y5 e.length l5]) VT e) (w := w2) (V := w5) (q := w4.heap.size) (x := .slice x4 VS.length k4) (y := .slice y4 d.length l4) (x' := .slice x5 VT.length k5) (y' := .slice y5 e.length l5) HR5.out (by omega) Q0.out (fun W hw hh => ⟨I4.out W (bTrans HB2.out hw) (fun o h1 h2 => (hh o (by (try simp at h1); omega) (by omega)).trans (HR45.out.block o h2)), I5.out W (bTrans HB2.out hw) (fun o h1 h2 => hh o (by (try simp at h1); omega) h2)⟩); have q5 : w2.heap.size ≤ w4.heap.size := (by omega); have q6 : w2.heap.size ≤ w5.heap.size := (by omega); with_reducible exact ⟨q1, q2, q3.1, q3.2, q4, q5, q6⟩)
              | (refine ⟨w5.heap.size, w2.heap.size, x4, k4, y4, l4, x5, k5, y5, l5, by with_reducible rfl, by with_reducible rfl, ?_⟩; obtain ⟨q1, q2, q3, q4⟩ := put_one (A := fun W => ArrI W (.agg #[.slice x4 VS.length k4, .slice y4 d.length l4]) VS d ∧ ArrI W (.agg #[.slice x5 VT.length k5, .slice y5 e.length l5]) VT e) (w := w2) (V := w5) (q := w2.heap.size) (x := .slice x5 VT.length k5) (y := .slice y5 e.length l5) (x' := .slice x4 VS.length k4) (y' := .slice y4 d.length l4) HR5.out (by omega) P0.out (fun W hw hh => ⟨I4.out W (bTrans HB2.out hw) (fun o h1 h2 => (hh o (by (try simp at h1); omega) (by omega)).trans (HR45.out.block o h2)), I5.out W (bTrans HB2.out hw) (fun o h1 h2 => hh o (by (try simp at h1); omega) h2)⟩); have q5 : w2.heap.size ≤ w5.heap.size := (by omega); have q6 : w2.heap.size ≤ w2.heap.size := (by omega); with_reducible exact ⟨q2, q1, q3.1, q3.2, q4, q5, q6⟩)
              | (refine ⟨w5.heap.size, w4.heap.size, x4, k4, y4, l4, x5, k5, y5, l5, by with_reducible rfl, by with_reducible rfl, ?_⟩; obtain ⟨q1, q2, q3, q4⟩ := put_one (A := fun W => ArrI W (.agg #[.slice x4 VS.length k4, .slice y4 d.length l4]) VS d ∧ ArrI W (.agg #[.slice x5 VT.length k5, .slice y5 e.length l5]) VT e) (w := w2) (V := w5) (q := w4.heap.size) (x := .slice x5 VT.length k5) (y := .slice y5 e.length l5) (x' := .slice x4 VS.length k4) (y' := .slice y4 d.length l4) HR5.out (by omega) Q0.out (fun W hw hh => ⟨I4.out W (bTrans HB2.out hw) (fun o h1 h2 => (hh o (by (try simp at h1); omega) (by omega)).trans (HR45.out.block o h2)), I5.out W (bTrans HB2.out hw) (fun o h1 h2 => hh o (by (try simp at h1); omega) h2)⟩); have q5 : w2.heap.size ≤ w5.heap.size := (by omega); have q6 : w2.heap.size ≤ w4.heap.size := (by omega); with_reducible exact ⟨q2, q1, q3.1, q3.2, q4, q5, q6⟩)
              | (refine ⟨w5.heap.size, (w5.heap.size + 1), x4, k4, y4, l4, x5, k5, y5, l5, by with_reducible rfl, by with_reducible rfl, ?_⟩; have bl : Below w2.heap.size w2 ((w5.alloc (.cells #[.slice x4 VS.length k4, .slice y4 d.length l4] 26)).alloc (.cells #[.slice x5 VT.length k5, .slice y5 e.length l5] 26)) := bAlloc (bAlloc HR5.out _) _; have bk : Below w5.heap.size w5 ((w5.alloc (.cells #[.slice x4 VS.length k4, .slice y4 d.length l4] 26)).alloc (.cells #[.slice x5 VT.length k5, .slice y5 e.length l5] 26)) := bAlloc (bAlloc (Below.refl _ _) _) _; have c7 : Box ((w5.alloc (.cells #[.slice x4 VS.length k4, .slice y4 d.length l4] 26)).alloc (.cells #[.slice x5 VT.length k5, .slice y5 e.length l5] 26)) w5.heap.size (.slice x4 VS.length k4) (.slice y4 d.length l4) 26 := heap_alloc2_old w5 (.cells #[.slice x4 VS.length k4, .slice y4 d.length l4] 26) (.cells #[.slice x5 VT.length k5, .slice y5 e.length l5] 26); have c8 : Box ((w5.alloc (.cells #[.slice x4 VS.length k4, .slice y4 d.length l4] 26)).alloc (.cells #[.slice x5 VT.length k5, .slice y5 e.length l5] 26)) (w5.heap.size + 1) (.slice x5 VT.length k5) (.slice y5 e.length l5) 26 := heap_alloc2_new w5 (.cells #[.slice x4 VS.length k4, .slice y4 d.length l4] 26) (.cells #[.slice x5 VT.length k5, .slice y5 e.length l5] 26); have c9 := I4.out ((w5.alloc (.cells #[.slice x4 VS.length k4, .slice y4 d.length l4] 26)).alloc (.cells #[.slice x5 VT.length k5, .slice y5 e.length l5] 26)) (bTrans HB2.out bl) (fun o h1 h2 => (bk.block o (by omega)).trans (HR45.out.block o h2)); have c10 := I5.out ((w5.alloc (.cells #[.slice x4 VS.length k4, .slice y4 d.length l4] 26)).alloc (.cells #[.slice x5 VT.length k5, .slice y5 e.length l5] 26)) (bTrans HB2.out bl) (fun o h1 h2 => bk.block o h2); have q5 : w2.heap.size ≤ w5.heap.size := (by omega); have q6 : w2.heap.size ≤ (w5.heap.size + 1) := (by omega); with_reducible exact ⟨c7, c8, c9, c10, bl, q5, q6⟩)
              | (refine ⟨(w5.heap.size + 1), w5.heap.size, x4, k4, y4, l4, x5, k5, y5, l5, by with_reducible rfl, by with_reducible rfl, ?_⟩; have bl : Below w2.heap.size w2 ((w5.alloc (.cells #[.slice x5 VT.length k5, .slice y5 e.length l5] 26)).alloc (.cells #[.slice x4 VS.length k4, .slice y4 d.length l4] 26)) := bAlloc (bAlloc HR5.out _) _; have bk : Below w5.heap.size w5 ((w5.alloc (.cells #[.slice x5 VT.length k5, .slice y5 e.length l5] 26)).alloc (.cells #[.slice x4 VS.length k4, .slice y4 d.length l4] 26)) := bAlloc (bAlloc (Below.refl _ _) _) _; have c7 : Box ((w5.alloc (.cells #[.slice x5 VT.length k5, .slice y5 e.length l5] 26)).alloc (.cells #[.slice x4 VS.length k4, .slice y4 d.length l4] 26)) (w5.heap.size + 1) (.slice x4 VS.length k4) (.slice y4 d.length l4) 26 := heap_alloc2_new w5 (.cells #[.slice x5 VT.length k5, .slice y5 e.length l5] 26) (.cells #[.slice x4 VS.length k4, .slice y4 d.length l4] 26); have c8 : Box ((w5.alloc (.cells #[.slice x5 VT.length k5, .slice y5 e.length l5] 26)).alloc (.cells #[.slice x4 VS.length k4, .slice y4 d.length l4] 26)) w5.heap.size (.slice x5 VT.length k5) (.slice y5 e.length l5) 26 := heap_alloc2_old w5 (.cells #[.slice x5 VT.length k5, .slice y5 e.length l5] 26) (.cells #[.slice x4 VS.length k4, .slice y4 d.length l4] 26); have c9 := I4.out ((w5.alloc (.cells #[.slice x5 VT.length k5, .slice y5 e.length l5] 26)).alloc (.cells #[.slice x4 VS.length k4, .slice y4 d.length l4] 26)) (bTrans HB2.out bl) (fun o h1 h2 => (bk.block o (by omega)).trans (HR45.out.block o h2)); have c10 := I5.out ((w5.alloc (.cells #[.slice x5 VT.length k5, .slice y5 e.length l5] 26)).alloc (.cells #[.slice x4 VS.length k4, .slice y4 d.length l4] 26)) (bTrans HB2.out bl) (fun o h1 h2 => bk.block o h2); have q5 : w2.heap.size ≤ (w5.heap.size + 1) := (by omega); have q6 : w2.heap.size ≤ w5.heap.size := (by omega); with_reducible exact ⟨c7, c8, c9, c10, bl, q5, q6⟩)
      obtain ⟨w6, hwc⟩ : ∃ x, x = wc := ⟨_, rfl⟩
      subst hwc
      obtain ⟨g7, g8, x4, k4, y4, l4, x5, k5, y5, l5, rfl, rfl, b7, b8, ia, ib, hbl, hg7, hg8⟩ := hcut
      have B7 : Hid (Box w6 g7 (.slice x4 VS.length k4) (.slice y4 d.length l4) 26) := b7
      have B8 : Hid (Box w6 g8 (.slice x5 VT.length k5) (.slice y5 e.length l5) 26) := b8
      have G7 : Hid (g7 < w.heap.size + 1 + 1 ∨ w.heap.size + 1 + 1 + 1 ≤ g7) := .inr (by have := Z2.out.lt; omega)
      have G8 : Hid (g8 < w.heap.size + 1 + 1 ∨ w.heap.size + 1 + 1 + 1 ≤ g8) := .inr (by have := Z2.out.lt; omega)
      clear hg7 hg8
      have HB6 : Hid (Below w.heap.size w w6) := bTrans HB2.out hbl
      have R6 : Hid (Box w6 (w.heap.size + 1 + 1) (.slice none 0 0) (.slice none 0 0) 26) := R2.out.keep hbl
      have Z6 : Hid (Box w6 (w.heap.size + 1 + 1 + 1) (.slice none 0 0) (.slice none 0 0) 26) := Z2.out.keep hbl
      have L6 : Hid (w.heap.size + 1 + 1 + 1 < w6.heap.size) := Z6.out.lt
      have hpS : 0 < VS.length := by rw [QS.out]; simp
      have hpT : 0 < VT.length := by rw [QT.out]; simp
      obtain ⟨_, _, _, _, ev, jS, jD, gS, gD⟩ := ia
      cases ev
      obtain ⟨_, _, _, _, ev, jT, jE, gT, gE⟩ := ib
      cases ev
      have ID : Hid (Ints w6 y4 d) := jD
      have IE : Hid (Ints w6 y5 e) := jE
      obtain ⟨ab, ao, rfl, la, ca⟩ := jS.at hpS
      obtain ⟨bb, bo, rfl, lb, cb⟩ := jT.at hpT
      rw [Nat.add_zero, show VS.getD 0 0 = m by rw [QS.out]; rfl] at ca
      rw [Nat.add_zero, show VT.getD 0 0 = n by rw [QT.out]; rfl] at cb
      have CA : Hid (w6.cell? ⟨ab, ao, none⟩ = some (.int .i64 m) ∧ ab < w6.heap.size) := ⟨ca, la⟩
      have CB : Hid (w6.cell? ⟨bb, bo, none⟩ = some (.int .i64 n) ∧ bb < w6.heap.size) := ⟨cb, lb⟩
      obtain ⟨a6, c6, hra, i6⟩ := ints_from (M := 1) jS gS (by omega)
      obtain ⟨b6, d6, hrb, k6⟩ := ints_from (M := 1) jT gT (by omega)
      rw [show VS.drop 1 = tl by rw [QS.out]; rfl] at hra i6
      rw [show VT.drop 1 = tl' by rw [QT.out]; rfl] at hrb k6
      simp only [show ((1 : Nat) : Int) = 1 from rfl] at hra hrb
      have IT : Hid (Ints w6 a6 tl) := i6
      have HEQ : Hid (∀ W, Below w6.heap.size w6 W → Calls Try.prog 89 #[.slice a6 tl.length c6, .slice b6 tl'.length d6] W fun r w' => r = .returned (.bool (decide (tl = tl'))) ∧ Below W.heap.size W w') := fun W hb => by
        refine (l2same_ints c6 d6 (by omega) (i6.keep hb) (k6.keep hb)).mono ?_
        rintro r w' ⟨rfl, j, rfl⟩
        exact ⟨rfl, bDrewN (Below.refl _ _) j⟩
      have hpSi : (0 : Int) < (VS.length : Int) := by omega
      have hpTi : (0 : Int) < (VT.length : Int) := by omega
      clear b7 b8 hbl jS jD gS gD jT jE gT gE la ca lb cb i6 k6 X2 Y2 R2 Z2 HB2 x0 x1 y0 y1 HV1 HV2
      have q0 := B7.out.c0
      have q2 := B8.out.c0
      by_cases hl : tl.length = tl'.length
      · have hVl : VS.length = VT.length := by rw [QS.out, QT.out]; simpa using hl
        have hlb : ((VS.length : Int) != (VT.length : Int)) = false := by simp [hVl]
        have HLL : Hid (tl.length = tl'.length) := hl
        clear hVl hl
        go_wp2_with fail
        go_region_held3 (fun w' => w'.cell? ⟨g7, 0, none⟩ = some (.slice (some ⟨ab, ao, none⟩) VS.length k4) ∧ w'.cell? ⟨g8, 0, none⟩ = some (.slice (some ⟨bb, bo, none⟩) VT.length k5))
          (first | with_reducible exact ⟨s0, s2⟩ | exact ⟨q0, q2⟩)
          ((go_at_call 89; refine (HEQ.out _ ((Below.refl w6.heap.size w6).drew)).mono ?_; rintro r w7 ⟨rfl, hb⟩; have HB7 : Hid (Below w6.heap.size w6 w7) := bTrans ((Below.refl w6.heap.size w6).drew) hb; have s0 := (B7.out.keep HB7.out).c0; have s2 := (B8.out.keep HB7.out).c0; clear hb))
        clear q0 q2 s0 s2 HEQ
        have R7 : Hid (Box w7 (w.heap.size + 1 + 1) (.slice none 0 0) (.slice none 0 0) 26) := R6.out.keep HB7.out
        have Z7 : Hid (Box w7 (w.heap.size + 1 + 1 + 1) (.slice none 0 0) (.slice none 0 0) 26) := Z6.out.keep HB7.out
        have BW7 : Hid (Below w.heap.size w w7) := bTrans HB6.out HB7.out
        by_cases htl : tl = tl'
        · have hdt : decide (tl = tl') = true := by simpa using htl
          rw [hdt]
          obtain ⟨SH, hSH⟩ : ∃ SH, SH = [m + n] ++ tl := ⟨_, rfl⟩
          have ES : Hid (x = (rightR SH (d ++ e)).1 ∧ S = (rightR SH (d ++ e)).2.1 ∧ D = (rightR SH (d ++ e)).2.2) := by
            show _ ∧ _ ∧ _
            rw [if_neg (show ¬ tl.length ≠ tl'.length from fun k => k HLL.out), if_neg (show ¬ tl ≠ tl' from fun k => k htl)] at hx hS hD
            have hR : rightR SH (d ++ e) = if 0 ≤ sizeV ((m + n) :: tl) then (0, (m + n) :: tl, d ++ e) else (6, [], []) := by
              rw [hSH]
              show rightR ((m + n) :: tl) (d ++ e) = _
              unfold rightR
              by_cases z : 0 ≤ sizeV ((m + n) :: tl)
              · rw [if_pos z, if_pos (join_right r1 (by rw [htl]; exact r2) z), mkR_good]
              · rw [if_neg z, if_neg (show ¬ (arrOk ((m + n) :: tl) (d ++ e) = true) from fun k => z (arrOk_shape k)), mkR_bad (by decide)]
            rw [hR]
            exact ⟨hx, hS, hD⟩
          have LDE : Hid ((d ++ e).length ≤ 1048576) := by show _ ≤ _; rw [List.length_append]; omega
          have hwr : IntKind.i64.wrap (m + n) = m + n := wrapI (by omega) (by omega)
          have D7 : Hid (Box w7 g7 (.slice (some ⟨ab, ao, none⟩) VS.length k4) (.slice y4 d.length l4) 26) := B7.out.keep HB7.out
          have D8 : Hid (Box w7 g8 (.slice (some ⟨bb, bo, none⟩) VT.length k5) (.slice y5 e.length l5) 26) := B8.out.keep HB7.out
          have N8 : NewInts w7.heap.size (w7.drew.alloc (.cells #[.int .i64 (m + n)] 3)) (.slice (some ⟨w7.heap.size, 0, none⟩) 1 1) [m + n] := newInts_alloc w7.drew [m + n] (Nat.le_refl _) (by simp)
          obtain ⟨a8, c8, w8, r8, n8, h8⟩ := growL N8 (IT.out.keep (bTrans HB7.out (bAlloc ((Below.refl w7.heap.size w7).drew) _))) (by simp) (by simp; omega) c6
          rw [← hSH] at r8 n8
          have R8 : Hid (_ = _) := r8
          have NS8 : Hid (NewInts w7.heap.size w8 (.slice a8 SH.length c8) SH) := n8
          have HB8 : Hid (Below w7.heap.size w7 w8) := (bAlloc ((Below.refl w7.heap.size w7).drew) _).trans h8
          have c1' := (HB7.out.cell (p := ⟨ab, ao, none⟩) CA.out.2).trans CA.out.1
          have c2' := (HB7.out.cell (p := ⟨bb, bo, none⟩) CB.out.2).trans CB.out.1
          have LA7 : Hid (ab < w7.heap.size ∧ bb < w7.heap.size) := ⟨Nat.lt_of_lt_of_le CA.out.2 HB7.out.size, Nat.lt_of_lt_of_le CB.out.2 HB7.out.size⟩
          have q0 := D7.out.c0
          have q2 := D8.out.c0
          have t0 := (D7.out.keep HB8.out).c0
          have t2 := (D8.out.keep HB8.out).c0
          have t4 := (HB8.out.cell (p := ⟨ab, ao, none⟩) LA7.out.1).trans c1'
          have t5 := (HB8.out.cell (p := ⟨bb, bo, none⟩) LA7.out.2).trans c2'
          have nw0 := World.new_ne w7 ⟨g7, 0, none⟩ q0
          have nw2 := World.new_ne w7 ⟨g8, 0, none⟩ q2
          have nw4 := World.new_ne w7 ⟨ab, ao, none⟩ c1'
          have nw5 := World.new_ne w7 ⟨bb, bo, none⟩ c2'
          clear N8 r8 n8 h8 hdt htl hx hS hD hSH
          go_wp2_with fail
          go_region_held3 (fun w' => w'.cell? ⟨g7, 0, none⟩ = some (.slice (some ⟨ab, ao, none⟩) VS.length k4) ∧ w'.cell? ⟨g8, 0, none⟩ = some (.slice (some ⟨bb, bo, none⟩) VT.length k5) ∧ w'.cell? ⟨ab, ao, none⟩ = some (.int .i64 m) ∧ w'.cell? ⟨bb, bo, none⟩ = some (.int .i64 n))
            (first | with_reducible exact ⟨t0, t2, t4, t5⟩ | with_reducible exact ⟨q0, q2, c1', c2'⟩ | go_keep)
            (refine step_append_ty (by rfl) (.tmp 52) (.tmp 55) 24 24 (by rfl) _ _ _ (by rfl) (by rfl) R8.out ?_)
          clear q0 q2 t0 t2 t4 t5 nw0 nw2 nw4 nw5 c1' c2' R8 hra hrb
          have D7' : Hid (Box w8 g7 (.slice (some ⟨ab, ao, none⟩) VS.length k4) (.slice y4 d.length l4) 26) := D7.out.keep HB8.out
          have D8' : Hid (Box w8 g8 (.slice (some ⟨bb, bo, none⟩) VT.length k5) (.slice y5 e.length l5) 26) := D8.out.keep HB8.out
          have R8' : Hid (Box w8 (w.heap.size + 1 + 1) (.slice none 0 0) (.slice none 0 0) 26) := R7.out.keep HB8.out
          have BW8 : Hid (Below w6.heap.size w6 w8) := bTrans HB7.out HB8.out
          obtain ⟨ta, tc, v1, ua, uc, v2, e1, e2, u1, u2, u3, u4⟩ := two_appends (V := w8.drew) ((ID.out.keep BW8.out).keep ((Below.refl _ _).drew)) ((IE.out.keep BW8.out).keep ((Below.refl _ _).drew)) (by have := LDE.out; rw [List.length_append] at this; exact this) l4 l5
          have A1 : Hid (_ = _) := e1
          have A2 : Hid (_ = _) := e2
          have V1 : Hid (Below w8.heap.size w8 v1) := bTrans ((Below.refl w8.heap.size w8).drew) u1
          have V2 : Hid (Below w8.heap.size w8 v2) := bTrans ((Below.refl w8.heap.size w8).drew) u2
          have AR : Hid (Arr w7.heap.size v2.heap.size v2 (.agg #[.slice a8 SH.length c8, .slice ua (d ++ e).length uc]) SH (d ++ e)) := by
            have p1 := NS8.out.piece.keep V2.out
            have p2 : Piece w8.heap.size v2.heap.size v2 (.slice ua (d ++ e).length uc) (d ++ e) := NewInts.piece (B := w8.drew.heap.size) u4
            exact ⟨_, _, rfl, p1.mono (Nat.le_refl _) V2.out.size, p2.mono HB8.out.size (Nat.le_refl _), p1.apart p2 (.inl (Nat.le_refl _))⟩
          have HRT : Hid (Calls Try.prog 90 #[.agg #[.slice a8 SH.length c8, .slice ua (d.length + e.length) uc]] v2 fun r w' => ∃ v', r = .returned (.tuple #[v', .int .i64 x]) ∧ Arr w7.heap.size v2.heap.size w' v' S D ∧ Below v2.heap.size v2 w') := by
            have q := right5_spec AR.out (Nat.le_refl _) LDE.out
            rw [← ES.out.1, ← ES.out.2.1, ← ES.out.2.2, List.length_append] at q
            exact q
          clear e1 e2 u1 u2 u3 u4
          have q1 := D7'.out.c1
          have q3 := D8'.out.c1
          have t1 := (D7'.out.keep V1.out).c1
          have t3 := (D8'.out.keep V1.out).c1
          have o1 := (D7'.out.keep V2.out).c1
          have o3 := (D8'.out.keep V2.out).c1
          have nw1 := World.new_ne w8 ⟨g7, 1, none⟩ q1
          have nw3 := World.new_ne w8 ⟨g8, 1, none⟩ q3
          go_wp2_with fail
          go_region_held3 (fun w' => w'.cell? ⟨g7, 1, none⟩ = some (.slice y4 d.length l4) ∧ w'.cell? ⟨g8, 1, none⟩ = some (.slice y5 e.length l5))
            (first | with_reducible exact ⟨n1', n3'⟩ | with_reducible exact ⟨o1, o3⟩ | with_reducible exact ⟨t1, t3⟩ | with_reducible exact ⟨q1, q3⟩ | with_reducible exact ⟨j1, j3⟩ | go_keep)
            (first
              | refine step_append_ty (by rfl) (.tmp 58) (.tmp 60) 24 24 (by rfl) _ _ _ (by rfl) (by rfl) A1.out ?_
              | refine step_append_ty (by rfl) (.tmp 61) (.tmp 63) 24 24 (by rfl) _ _ _ (by rfl) (by rfl) A2.out ?_
              | (go_at_call 90; refine (HRT.out).mono ?_; rintro r w11 ⟨v11, rfl, ha, hb⟩; obtain ⟨a11, c11, b11, f11, rfl, _, _, _, _⟩ := ha.arrI; have HA : Hid (Arr w7.heap.size v2.heap.size w11 (.agg #[.slice a11 S.length c11, .slice b11 D.length f11]) S D) := ha; have V11 : Hid (Below v2.heap.size v2 w11) := hb; have n1' := ((D7'.out.keep V2.out).keep hb).c1; have n3' := ((D8'.out.keep V2.out).keep hb).c1; have RR : Hid (Box w11 (w.heap.size + 1 + 1) (.slice none 0 0) (.slice none 0 0) 26) := (R8'.out.keep V2.out).keep hb; have r0 := RR.out.c0; have r1' := RR.out.c1; have f0 : w11.frozen? ⟨w.heap.size + 1 + 1, 0, none⟩ = false := free_at RR.out 0; have f1 : w11.frozen? ⟨w.heap.size + 1 + 1, 1, none⟩ = false := free_at RR.out 1; have RW : Hid (Win (w.heap.size + 1 + 1) (w.heap.size + 1 + 1 + 1) w11 ((w11.setCell ⟨w.heap.size + 1 + 1, 0, none⟩ (.slice a11 S.length c11)).setCell ⟨w.heap.size + 1 + 1, 1, none⟩ (.slice b11 D.length f11))) := (win_setCell _ _ _ _).trans (win_setCell _ _ _ _); have j1 := (Box.win ((D7'.out.keep V2.out).keep hb) RW.out G7.out).c1; have j3 := (Box.win ((D8'.out.keep V2.out).keep hb) RW.out G8.out).c1; clear ha hb))
          have HR : Hid (((w11.setCell ⟨w.heap.size + 1 + 1, 0, none⟩ (.slice a11 S.length c11)).setCell ⟨w.heap.size + 1 + 1, 1, none⟩ (.slice b11 D.length f11)).heap[w.heap.size + 1 + 1]? = some (.cells #[.slice a11 S.length c11, .slice b11 D.length f11] 26 (0, 0))) := arr_stored RR.out
          go_wp2
          refine bodyPost_ret (results_arr_tmp Try.results36 _ _ (w.heap.size + 1 + 1) _ _ rfl HR.out) rfl ?_
          refine ⟨_, rfl, ?_, below_setCell (below_setCell (bTrans (bTrans BW7.out HB8.out) (bTrans V2.out V11.out)) (by omega) _ _) (by omega) _ _⟩
          have L := L6.out
          have L7 := HB7.out.size
          have L11 := V11.out.size
          exact ((HA.out.setCell (by omega) _ _).setCell (by omega) _ _).mono (by omega) (by simp only [size_setCell]; omega)
        · have hdt : decide (tl = tl') = false := by simpa using htl
          rw [hdt]
          rw [if_neg (show ¬ tl.length ≠ tl'.length from fun k => k HLL.out), if_pos htl] at hx hS hD
          subst hx hS hD
          clear hdt htl
          have r0 := R7.out.c0
          have r1 := R7.out.c1
          have f0 : w7.frozen? ⟨w.heap.size + 1 + 1, 0, none⟩ = false := free_at R7.out 0
          have f1 : w7.frozen? ⟨w.heap.size + 1 + 1, 1, none⟩ = false := free_at R7.out 1
          have z0 := Z7.out.c0
          have z1 := Z7.out.c1
          have HR : Hid (((w7.setCell ⟨w.heap.size + 1 + 1, 0, none⟩ (.slice none 0 0)).setCell ⟨w.heap.size + 1 + 1, 1, none⟩ (.slice none 0 0)).heap[w.heap.size + 1 + 1]? = some (.cells #[.slice none 0 0, .slice none 0 0] 26 (0, 0))) := arr_stored R7.out
          go_wp2
          refine bodyPost_ret (results_arr_tmp Try.results36 _ _ (w.heap.size + 1 + 1) _ _ rfl HR.out) rfl ?_
          exact ⟨_, rfl, arr_zero _ _ _, below_setCell (below_setCell BW7.out (by omega) _ _) (by omega) _ _⟩
      · have hVl : VS.length ≠ VT.length := by rw [QS.out, QT.out]; simpa using hl
        have hlb : ((VS.length : Int) != (VT.length : Int)) = true := by simp; omega
        rw [if_pos hl] at hx hS hD
        subst hx hS hD
        clear hVl hl
        have r0 := R6.out.c0
        have r1 := R6.out.c1
        have f0 : w6.frozen? ⟨w.heap.size + 1 + 1, 0, none⟩ = false := free_at R6.out 0
        have f1 : w6.frozen? ⟨w.heap.size + 1 + 1, 1, none⟩ = false := free_at R6.out 1
        have z0 := Z6.out.c0
        have z1 := Z6.out.c1
        have HR : Hid (((w6.setCell ⟨w.heap.size + 1 + 1, 0, none⟩ (.slice none 0 0)).setCell ⟨w.heap.size + 1 + 1, 1, none⟩ (.slice none 0 0)).heap[w.heap.size + 1 + 1]? = some (.cells #[.slice none 0 0, .slice none 0 0] 26 (0, 0))) := arr_stored R6.out
        go_wp2
        refine bodyPost_ret (results_arr_tmp Try.results36 _ _ (w.heap.size + 1 + 1) _ _ rfl HR.out) rfl ?_
        exact ⟨_, rfl, arr_zero _ _ _, below_setCell (below_setCell HB6.out (by omega) _ _) (by omega) _ _⟩
    · have HO' : Hid (arrOk t e = false) := by show _ = _; simpa using ho'
      have ER : joinR s d t e = (1, [], []) := joinR_bad (fun k => ho' k.2)
      rw [ER]
      clear ER ho ho'
      go_enter Try.func36, Try.ntmps36
      go_wp2_with fail
      refine (arrOk_spec (H.out.keep (bAlloc (bAlloc (bAlloc (bAlloc (Below.refl _ _) _) _) _) _)) HD.out).mono ?_
      rintro r w1 ⟨rfl, hb⟩
      have HB1 : Hid (Below w.heap.size w w1) := bTrans (bAlloc (bAlloc (bAlloc (bAlloc (Below.refl _ _) _) _) _) _) hb
      have q1 := blocks4 w (.cells #[.slice a s.length c, .slice b d.length f] 26) (.cells #[.slice a' t.length c', .slice b' e.length f'] 26) (.cells #[.slice none 0 0, .slice none 0 0] 26) (.cells #[.slice none 0 0, .slice none 0 0] 26)
      have X1 : Hid (Box w1 w.heap.size (.slice a s.length c) (.slice b d.length f) 26) := Box.keep q1.1 hb
      have Y1 : Hid (Box w1 (w.heap.size + 1) (.slice a' t.length c') (.slice b' e.length f') 26) := Box.keep q1.2.1 hb
      have R1 : Hid (Box w1 (w.heap.size + 1 + 1) (.slice none 0 0) (.slice none 0 0) 26) := Box.keep q1.2.2.1 hb
      have Z1 : Hid (Box w1 (w.heap.size + 1 + 1 + 1) (.slice none 0 0) (.slice none 0 0) 26) := Box.keep q1.2.2.2 hb
      clear hb q1
      rw [HO.out]
      have x0 := X1.out.c0
      have x1 := X1.out.c1
      have y0 := Y1.out.c0
      have y1 := Y1.out.c1
      have r0 := R1.out.c0
      have r1 := R1.out.c1
      have f0 : w1.frozen? ⟨w.heap.size + 1 + 1, 0, none⟩ = false := free_at R1.out 0
      have f1 : w1.frozen? ⟨w.heap.size + 1 + 1, 1, none⟩ = false := free_at R1.out 1
      have z0 := Z1.out.c0
      have z1 := Z1.out.c1
      go_wp2_with fail
      refine (arrOk_spec (K.out.keep HB1.out) HE.out).mono ?_
      rintro r w2 ⟨rfl, hb⟩
      have HB2 : Hid (Below w.heap.size w w2) := bTrans HB1.out hb
      have X2 : Hid (Box w2 w.heap.size (.slice a s.length c) (.slice b d.length f) 26) := X1.out.keep hb
      have Y2 : Hid (Box w2 (w.heap.size + 1) (.slice a' t.length c') (.slice b' e.length f') 26) := Y1.out.keep hb
      have R2 : Hid (Box w2 (w.heap.size + 1 + 1) (.slice none 0 0) (.slice none 0 0) 26) := R1.out.keep hb
      have Z2 : Hid (Box w2 (w.heap.size + 1 + 1 + 1) (.slice none 0 0) (.slice none 0 0) 26) := Z1.out.keep hb
      rw [HO'.out]
      clear hb x0 x1 y0 y1 r0 r1 z0 z1 f0 f1 X1 Y1 R1 Z1 HB1
      have r0 := R2.out.c0
      have r1 := R2.out.c1
      have f0 : w2.frozen? ⟨w.heap.size + 1 + 1, 0, none⟩ = false := free_at R2.out 0
      have f1 : w2.frozen? ⟨w.heap.size + 1 + 1, 1, none⟩ = false := free_at R2.out 1
      have z0 := Z2.out.c0
      have z1 := Z2.out.c1
      have HR : Hid (((w2.setCell ⟨w.heap.size + 1 + 1, 0, none⟩ (.slice none 0 0)).setCell ⟨w.heap.size + 1 + 1, 1, none⟩ (.slice none 0 0)).heap[w.heap.size + 1 + 1]? = some (.cells #[.slice none 0 0, .slice none 0 0] 26 (0, 0))) := arr_stored R2.out
      go_wp2
      refine bodyPost_ret (results_arr_tmp Try.results36 _ _ (w.heap.size + 1 + 1) _ _ rfl HR.out) rfl ?_
      exact ⟨_, rfl, arr_zero _ _ _, below_setCell (below_setCell HB2.out (by omega) _ _) (by omega) _ _⟩
  · have HO : Hid (arrOk s d = false) := by show _ = _; simpa using ho
    have ER : joinR s d t e = (1, [], []) := joinR_bad (fun k => ho k.1)
    rw [ER]
    clear ER ho
    go_enter Try.func36, Try.ntmps36
    go_wp2_with fail
    refine (arrOk_spec (H.out.keep (bAlloc (bAlloc (bAlloc (bAlloc (Below.refl _ _) _) _) _) _)) HD.out).mono ?_
    rintro r w1 ⟨rfl, hb⟩
    have HB1 : Hid (Below w.heap.size w w1) := bTrans (bAlloc (bAlloc (bAlloc (bAlloc (Below.refl _ _) _) _) _) _) hb
    have q1 := blocks4 w (.cells #[.slice a s.length c, .slice b d.length f] 26) (.cells #[.slice a' t.length c', .slice b' e.length f'] 26) (.cells #[.slice none 0 0, .slice none 0 0] 26) (.cells #[.slice none 0 0, .slice none 0 0] 26)
    have X1 : Hid (Box w1 w.heap.size (.slice a s.length c) (.slice b d.length f) 26) := Box.keep q1.1 hb
    have Y1 : Hid (Box w1 (w.heap.size + 1) (.slice a' t.length c') (.slice b' e.length f') 26) := Box.keep q1.2.1 hb
    have R1 : Hid (Box w1 (w.heap.size + 1 + 1) (.slice none 0 0) (.slice none 0 0) 26) := Box.keep q1.2.2.1 hb
    have Z1 : Hid (Box w1 (w.heap.size + 1 + 1 + 1) (.slice none 0 0) (.slice none 0 0) 26) := Box.keep q1.2.2.2 hb
    clear hb q1
    rw [HO.out]
    have x0 := X1.out.c0
    have x1 := X1.out.c1
    have y0 := Y1.out.c0
    have y1 := Y1.out.c1
    have r0 := R1.out.c0
    have r1 := R1.out.c1
    have f0 : w1.frozen? ⟨w.heap.size + 1 + 1, 0, none⟩ = false := free_at R1.out 0
    have f1 : w1.frozen? ⟨w.heap.size + 1 + 1, 1, none⟩ = false := free_at R1.out 1
    have z0 := Z1.out.c0
    have z1 := Z1.out.c1
    clear x0 x1 y0 y1 r0 r1 z0 z1 f0 f1
    have r0 := R1.out.c0
    have r1 := R1.out.c1
    have f0 : w1.frozen? ⟨w.heap.size + 1 + 1, 0, none⟩ = false := free_at R1.out 0
    have f1 : w1.frozen? ⟨w.heap.size + 1 + 1, 1, none⟩ = false := free_at R1.out 1
    have z0 := Z1.out.c0
    have z1 := Z1.out.c1
    have HR : Hid (((w1.setCell ⟨w.heap.size + 1 + 1, 0, none⟩ (.slice none 0 0)).setCell ⟨w.heap.size + 1 + 1, 1, none⟩ (.slice none 0 0)).heap[w.heap.size + 1 + 1]? = some (.cells #[.slice none 0 0, .slice none 0 0] 26 (0, 0))) := arr_stored R1.out
    go_wp2
    refine bodyPost_ret (results_arr_tmp Try.results36 _ _ (w.heap.size + 1 + 1) _ _ rfl HR.out) rfl ?_
    exact ⟨_, rfl, arr_zero _ _ _, below_setCell (below_setCell HB1.out (by omega) _ _) (by omega) _ _⟩
end Go.Proofs.Ytfmheanmkfdjnac
