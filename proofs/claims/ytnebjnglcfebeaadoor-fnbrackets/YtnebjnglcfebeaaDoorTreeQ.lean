/-
  Walks: lists of Expr, told by value: held against each other.
-/
import Derived.Test.YtnebjnglcfebeaaDoorFunQ
import Derived.Deep.RegionHeld3
import Derived.Deep.Cut
namespace Go.Proofs.YtnebjnglcfebeaaDoor
open Go.RowKit
set_option linter.unusedVariables false
set_option linter.unusedSimpArgs false
/-- A list of Expr: the i-th has the numbers E i 0 .. 5 and the list N i. -/
def ExprsI (w : World) (v : Value) (n : Nat) (E : Nat → Nat → Int) (N : Nat → List Int) : Prop :=
  ∃ a c, v = .slice a n c ∧ (n = 0 ∨ ∃ (o off : Nat) (x : Nat → Value), a = some ⟨o, off, none⟩ ∧ o < w.heap.size ∧ ∀ i, i < n →
    (w.cell? ⟨o, off + i * 7, none⟩ = some (.int .i64 (E i 0)) ∧ w.cell? ⟨o, off + i * 7 + 1, none⟩ = some (.int .i64 (E i 1)) ∧ w.cell? ⟨o, off + i * 7 + 2, none⟩ = some (.int .i64 (E i 2)) ∧ w.cell? ⟨o, off + i * 7 + 3, none⟩ = some (.int .i64 (E i 3)) ∧ w.cell? ⟨o, off + i * 7 + 4, none⟩ = some (.int .i64 (E i 4)) ∧ w.cell? ⟨o, off + i * 7 + 5, none⟩ = some (.int .i64 (E i 5)) ∧ w.cell? ⟨o, off + i * 7 + 6, none⟩ = some (x i)) ∧ IntsI w (x i) (N i))
theorem ExprsI.keep {w w' : World} {v : Value} {n : Nat} {E : Nat → Nat → Int} {N : Nat → List Int} (h : ExprsI w v n E N) (hb : Below w.heap.size w w') : ExprsI w' v n E N := by
  obtain ⟨a, c, rfl, h⟩ := h
  refine ⟨a, c, rfl, ?_⟩
  rcases h with h | ⟨o, off, x, e, ho, hi⟩
  · exact .inl h
  · refine .inr ⟨o, off, x, e, Nat.lt_of_lt_of_le ho hb.size, fun i hn => ?_⟩
    obtain ⟨⟨h0, h1, h2, h3, h4, h5, h6⟩, hz⟩ := hi i hn
    exact ⟨⟨(hb.cell (p := ⟨o, off + i * 7, none⟩) ho).trans h0, (hb.cell (p := ⟨o, off + i * 7 + 1, none⟩) ho).trans h1, (hb.cell (p := ⟨o, off + i * 7 + 2, none⟩) ho).trans h2, (hb.cell (p := ⟨o, off + i * 7 + 3, none⟩) ho).trans h3, (hb.cell (p := ⟨o, off + i * 7 + 4, none⟩) ho).trans h4, (hb.cell (p := ⟨o, off + i * 7 + 5, none⟩) ho).trans h5, (hb.cell (p := ⟨o, off + i * 7 + 6, none⟩) ho).trans h6⟩, hz.keep hb⟩
theorem ExprsI.at {w : World} {a : Option Addr} {c n : Nat} {E : Nat → Nat → Int} {N : Nat → List Int} (h : ExprsI w (.slice a n c) n E N) {i : Nat} (hi : i < n) :
    ∃ o off xa xc, a = some ⟨o, off, none⟩ ∧ o < w.heap.size ∧ (w.cell? ⟨o, off + i * 7, none⟩ = some (.int .i64 (E i 0)) ∧ w.cell? ⟨o, off + i * 7 + 1, none⟩ = some (.int .i64 (E i 1)) ∧ w.cell? ⟨o, off + i * 7 + 2, none⟩ = some (.int .i64 (E i 2)) ∧ w.cell? ⟨o, off + i * 7 + 3, none⟩ = some (.int .i64 (E i 3)) ∧ w.cell? ⟨o, off + i * 7 + 4, none⟩ = some (.int .i64 (E i 4)) ∧ w.cell? ⟨o, off + i * 7 + 5, none⟩ = some (.int .i64 (E i 5)) ∧ w.cell? ⟨o, off + i * 7 + 6, none⟩ = some (.slice xa (N i).length xc)) ∧ IntsI w (.slice xa (N i).length xc) (N i) := by
  obtain ⟨a', c', e, h⟩ := h
  cases e
  rcases h with h | ⟨o, off, x, e, ho, hh⟩
  · omega
  · obtain ⟨⟨h0, h1, h2, h3, h4, h5, h6⟩, hz⟩ := hh i hi
    have hy := hz
    obtain ⟨xa, xc, e1, g1, i1⟩ := hz
    rw [e1] at h6 hy
    exact ⟨o, off, xa, xc, e, ho, ⟨h0, h1, h2, h3, h4, h5, h6⟩, hy⟩
set_option maxRecDepth 20000 in
set_option maxHeartbeats 8000000 in
/-- Two of them. -/
theorem eqExpr_same {e : Nat → Int} {l : List Int} {w : World} {xa xa' : Option Addr} {xc xc' : Nat} (h : IntsI w (.slice xa l.length xc) l) (k : IntsI w (.slice xa' l.length xc') l) (hl : l.length ≤ 1048576) :
    Calls Tryd.prog 43 #[.agg #[.int .i64 (e 0), .int .i64 (e 1), .int .i64 (e 2), .int .i64 (e 3), .int .i64 (e 4), .int .i64 (e 5), .slice xa l.length xc], .agg #[.int .i64 (e 0), .int .i64 (e 1), .int .i64 (e 2), .int .i64 (e 3), .int .i64 (e 4), .int .i64 (e 5), .slice xa' l.length xc']] w fun r w' => r = .returned (.bool true) ∧ Below w.heap.size w w' := by
  obtain ⟨_, _, ev, _, i1⟩ := h
  cases ev
  obtain ⟨_, _, ev, _, i2⟩ := k
  cases ev
  have I1 : Hid (Ints w xa l) := i1
  have I2 : Hid (Ints w xa' l) := i2
  have HL : Hid (l.length ≤ 1048576) := hl
  clear i1 i2
  generalize e 0 = e0
  have b0 : (e0 != e0) = false := by simp
  generalize e 1 = e1
  have b1 : (e1 != e1) = false := by simp
  generalize e 2 = e2
  have b2 : (e2 != e2) = false := by simp
  generalize e 3 = e3
  have b3 : (e3 != e3) = false := by simp
  generalize e 4 = e4
  have b4 : (e4 != e4) = false := by simp
  generalize e 5 = e5
  have b5 : (e5 != e5) = false := by simp
  go_enter Tryd.func43, Tryd.ntmps43
  go_wp2_with fail
  refine (eqFun_same _ _ _ _).mono ?_
  rintro r w2 ⟨rfl, hb⟩
  have B2 : Hid (Below w.heap.size w w2) := bTrans (bAlloc (bAlloc (Below.refl _ _) _) _) hb
  have q := two_blocks9 w (.cells #[.int .i64 e0, .int .i64 e1, .int .i64 e2, .int .i64 e3, .int .i64 e4, .int .i64 e5, .slice xa l.length xc] 67) (.cells #[.int .i64 e0, .int .i64 e1, .int .i64 e2, .int .i64 e3, .int .i64 e4, .int .i64 e5, .slice xa' l.length xc'] 67)
  have c1 : w2.cell? ⟨w.heap.size, 6, none⟩ = some (.slice xa l.length xc) := (hb.cell (p := ⟨w.heap.size, 6, none⟩) (by simp; omega)).trans (cell_at q.1 rfl)
  have c2 : w2.cell? ⟨w.heap.size + 1, 6, none⟩ = some (.slice xa' l.length xc') := (hb.cell (p := ⟨w.heap.size + 1, 6, none⟩) (by simp)).trans (cell_at q.2 rfl)
  clear hb q
  go_wp2_with fail
  refine (eqInts_same9 (I1.out.keep B2.out) (I2.out.keep B2.out) HL.out xc xc').mono ?_
  rintro r w3 ⟨rfl, hb⟩
  have B3 : Hid (Below w.heap.size w w3) := bTrans B2.out hb
  clear hb
  go_wp2
  go_ret
  exact ⟨rfl, B3.out⟩
set_option maxRecDepth 20000 in
set_option maxHeartbeats 8000000 in
/-- Two lists of the same. -/
theorem eqExprS_same {w : World} {v u : Value} {n : Nat} {E : Nat → Nat → Int} {N : Nat → List Int} (h : ExprsI w v n E N) (k : ExprsI w u n E N) (hl : ∀ i, (N i).length ≤ 1048576) (hn : n ≤ 1048576) :
    Calls Tryd.prog 24 #[v, u] w fun r w' => r = .returned (.bool true) ∧ Below w.heap.size w w' := by
  have H : Hid (ExprsI w v n E N) := h
  have K : Hid (ExprsI w u n E N) := k
  have HL : Hid (∀ i, (N i).length ≤ 1048576) := hl
  obtain ⟨a, c, rfl, _⟩ := h
  obtain ⟨a', c', rfl, _⟩ := k
  clear hl
  go_enter Tryd.func24, Tryd.ntmps24
  go_wp2
  go_loopw [5] (fun i w' => ∃ k : Nat, k ≤ n ∧ i = .int .i64 (k : Int) ∧ Below w.heap.size w w') (fun i _ => n - (intOf i).toNat)
  case atStart => exact ⟨0, by omega, rfl, Below.refl _ _⟩
  case round =>
    obtain ⟨k, hk, rfl, hb⟩ := hrel
    have HB : Hid (Below w.heap.size w wr) := hb
    clear hb
    by_cases hlt : (k : Int) < (n : Int)
    · have L : k < n := by omega
      obtain ⟨o, off, xa, xc, rfl, ho, ⟨p0, p1, p2, p3, p4, p5, p6⟩, ar⟩ := (H.out.keep HB.out).at L
      obtain ⟨o', off', xa', xc', rfl, ho', ⟨q0, q1, q2, q3, q4, q5, q6⟩, ar'⟩ := (K.out.keep HB.out).at L
      have AR : Hid (IntsI wr (.slice xa (N k).length xc) (N k)) := ar
      have AK : Hid (IntsI wr (.slice xa' (N k).length xc') (N k)) := ar'
      have LL : Hid ((N k).length ≤ 1048576) := HL.out k
      have HO : Hid (o < wr.heap.size ∧ o' < wr.heap.size) := ⟨ho, ho'⟩
      clear ar ar' ho ho'
      generalize N k = l at *
      generalize E k = e at *
      have SK : Hid (∀ W, Below wr.heap.size wr W → (W.cell? ⟨o, off + k * 7, none⟩ = some (.int .i64 (e 0)) ∧ W.cell? ⟨o, off + k * 7 + 1, none⟩ = some (.int .i64 (e 1)) ∧ W.cell? ⟨o, off + k * 7 + 2, none⟩ = some (.int .i64 (e 2)) ∧ W.cell? ⟨o, off + k * 7 + 3, none⟩ = some (.int .i64 (e 3)) ∧ W.cell? ⟨o, off + k * 7 + 4, none⟩ = some (.int .i64 (e 4)) ∧ W.cell? ⟨o, off + k * 7 + 5, none⟩ = some (.int .i64 (e 5)) ∧ W.cell? ⟨o, off + k * 7 + 6, none⟩ = some (.slice xa l.length xc)) ∧ W.cell? ⟨o', off' + k * 7, none⟩ = some (.int .i64 (e 0)) ∧ W.cell? ⟨o', off' + k * 7 + 1, none⟩ = some (.int .i64 (e 1)) ∧ W.cell? ⟨o', off' + k * 7 + 2, none⟩ = some (.int .i64 (e 2)) ∧ W.cell? ⟨o', off' + k * 7 + 3, none⟩ = some (.int .i64 (e 3)) ∧ W.cell? ⟨o', off' + k * 7 + 4, none⟩ = some (.int .i64 (e 4)) ∧ W.cell? ⟨o', off' + k * 7 + 5, none⟩ = some (.int .i64 (e 5)) ∧ W.cell? ⟨o', off' + k * 7 + 6, none⟩ = some (.slice xa' l.length xc')) := fun W hb =>
        ⟨⟨(hb.cell (p := ⟨o, off + k * 7, none⟩) HO.out.1).trans p0, (hb.cell (p := ⟨o, off + k * 7 + 1, none⟩) HO.out.1).trans p1, (hb.cell (p := ⟨o, off + k * 7 + 2, none⟩) HO.out.1).trans p2, (hb.cell (p := ⟨o, off + k * 7 + 3, none⟩) HO.out.1).trans p3, (hb.cell (p := ⟨o, off + k * 7 + 4, none⟩) HO.out.1).trans p4, (hb.cell (p := ⟨o, off + k * 7 + 5, none⟩) HO.out.1).trans p5, (hb.cell (p := ⟨o, off + k * 7 + 6, none⟩) HO.out.1).trans p6⟩, (hb.cell (p := ⟨o', off' + k * 7, none⟩) HO.out.2).trans q0, (hb.cell (p := ⟨o', off' + k * 7 + 1, none⟩) HO.out.2).trans q1, (hb.cell (p := ⟨o', off' + k * 7 + 2, none⟩) HO.out.2).trans q2, (hb.cell (p := ⟨o', off' + k * 7 + 3, none⟩) HO.out.2).trans q3, (hb.cell (p := ⟨o', off' + k * 7 + 4, none⟩) HO.out.2).trans q4, (hb.cell (p := ⟨o', off' + k * 7 + 5, none⟩) HO.out.2).trans q5, (hb.cell (p := ⟨o', off' + k * 7 + 6, none⟩) HO.out.2).trans q6⟩
      go_wp2_with fail
      go_region_held3 (fun w' => (w'.cell? ⟨o, off + k * 7, none⟩ = some (.int .i64 (e 0)) ∧ w'.cell? ⟨o, off + k * 7 + 1, none⟩ = some (.int .i64 (e 1)) ∧ w'.cell? ⟨o, off + k * 7 + 2, none⟩ = some (.int .i64 (e 2)) ∧ w'.cell? ⟨o, off + k * 7 + 3, none⟩ = some (.int .i64 (e 3)) ∧ w'.cell? ⟨o, off + k * 7 + 4, none⟩ = some (.int .i64 (e 4)) ∧ w'.cell? ⟨o, off + k * 7 + 5, none⟩ = some (.int .i64 (e 5)) ∧ w'.cell? ⟨o, off + k * 7 + 6, none⟩ = some (.slice xa l.length xc)) ∧ w'.cell? ⟨o', off' + k * 7, none⟩ = some (.int .i64 (e 0)) ∧ w'.cell? ⟨o', off' + k * 7 + 1, none⟩ = some (.int .i64 (e 1)) ∧ w'.cell? ⟨o', off' + k * 7 + 2, none⟩ = some (.int .i64 (e 2)) ∧ w'.cell? ⟨o', off' + k * 7 + 3, none⟩ = some (.int .i64 (e 3)) ∧ w'.cell? ⟨o', off' + k * 7 + 4, none⟩ = some (.int .i64 (e 4)) ∧ w'.cell? ⟨o', off' + k * 7 + 5, none⟩ = some (.int .i64 (e 5)) ∧ w'.cell? ⟨o', off' + k * 7 + 6, none⟩ = some (.slice xa' l.length xc'))
        ((refine SK.out _ ?_; (repeat first | with_reducible exact HB2.out | with_reducible exact Below.refl _ _ | with_reducible refine Below.drew ?_)))
        ((go_at_call 43; refine (eqExpr_same (AR.out.keep ((Below.refl wr.heap.size wr).drew)) (AK.out.keep ((Below.refl wr.heap.size wr).drew)) LL.out).mono ?_; rintro r w2 ⟨rfl, hb⟩; have HB2 : Hid (Below wr.heap.size wr w2) := bTrans ((Below.refl wr.heap.size wr).drew) hb; clear hb))
      all_goals
        go_wp2
        go_roundw
        case rel => exact ⟨k + 1, by omega, by go_num, bTrans HB.out HB2.out⟩
        case measure => simp [intOf]; omega
    · go_wp2
      go_ret
      exact ⟨rfl, HB.out⟩
end Go.Proofs.YtnebjnglcfebeaaDoor
