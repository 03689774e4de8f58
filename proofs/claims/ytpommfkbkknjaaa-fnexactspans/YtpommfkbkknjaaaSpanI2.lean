/-
  Walks: the program's longestRun.
-/
import Derived.Test.YtpommfkbkknjaaaSpanI
import Derived.Test.YtpommfkbkknjaaaCodeI3
import Derived.Test.YtpommfkbkknjaaaLaw3
namespace Go.Proofs.Ytpommfkbkknjaaa
open Go.RowKit
set_option linter.unusedVariables false
set_option linter.unusedSimpArgs false
/-- A list of instructions from one on. -/
theorem ins_from {w : World} {a : Option Addr} {n c M : Nat} {E : Nat → Nat → Int} {N : Nat → List Int} (h : InsI w (.slice a n c) n E N) (hc : n ≤ c) (hM : M < n) :
    ∃ a', (∀ W, (Instr.slice 26 (.slice a n c) (some (.int .i64 (M : Int))) none none).run Try.prog W = .ok (.slice a' (n - M) (c - M)) W) ∧ InsI w (.slice a' (n - M) (c - M)) (n - M) (fun i => E (M + i)) (fun i => N (M + i)) := by
  have hrun : ∀ W, (Instr.slice 26 (.slice a n c) (some (.int .i64 (M : Int))) none none).run Try.prog W = .ok (sliced a M n c 6) W := by
    intro W
    have hs : (sizeOf 44).run Try.prog W = .ok 6 W := by kernel_rfl
    have he : Try.prog.elem 26 = 44 := by kernel_rfl
    rw [run_slice_l (P := Try.prog) (w := W) 26 a n c (by rw [he]; exact Try.underlying26) .i64 (M : Int) (by omega) (by omega), he, hs]
    simp [Result.andThen]
  obtain ⟨a0, c0, e, h⟩ := h
  cases e
  rcases h with h | ⟨o, off, x, rfl, ho, hh⟩
  · omega
  refine ⟨_, hrun, _, _, rfl, .inr ⟨o, off + M * 6, fun i => x (M + i), ?_, ho, fun i hi => ?_⟩⟩
  · rw [if_neg (by omega)]
    simp [Addr.add]
  · have q := hh (M + i) (by omega)
    have e : off + (M + i) * 6 = off + M * 6 + i * 6 := by omega
    rw [e] at q
    exact q
theorem box_set1 {w : World} {g : Nat} {x y : Value} {t : TypeId} (h : Box w g x y t) (z : Value) : Box (w.setCell ⟨g, 1, none⟩ z) g x z t := by
  have := heap_setCell_same w g 1 _ _ z h
  unfold Box; simpa using this
theorem box_set0 {w : World} {g : Nat} {x y : Value} {t : TypeId} (h : Box w g x y t) (z : Value) : Box (w.setCell ⟨g, 0, none⟩ z) g z y t := by
  have := heap_setCell_same w g 0 _ _ z h
  unfold Box; simpa using this
theorem cell_set2 {w : World} {g : Nat} {x y : Value} {t : TypeId} (h : Box w g x y t) {z u : Value} : ((w.setCell ⟨g, 0, none⟩ z).setCell ⟨g, 1, none⟩ u).cell? ⟨g, 0, none⟩ = some z ∧ ((w.setCell ⟨g, 0, none⟩ z).setCell ⟨g, 1, none⟩ u).cell? ⟨g, 1, none⟩ = some u :=
  ⟨(box_set1 (box_set0 h z) u).c0, (box_set1 (box_set0 h z) u).c1⟩
/-- Where a run ends, or its own beginning. -/
def toF (f e : Nat) : Nat := if e = 0 then f else e
set_option maxRecDepth 20000 in
set_option maxHeartbeats 8000000 in
/-- longestRun. -/
theorem run_impl {w : World} {a : Option Addr} {c n : Nat} {E : Nat → Nat → Int} {N : Nat → List Int} (h : InsI w (.slice a n c) n E N) (hc : n ≤ c) (hn : n ≤ 60) (hi : ∀ i, i < n → insB (E i) (N i) = true) (f : Nat) (hf : f < n) :
    Calls Try.prog 18 #[.slice a n c, .int .i64 (f : Int)] w fun r w' => r = .returned (.agg #[.int .i64 (f : Int), .int .i64 (toF f (endF n E f) : Int)]) ∧ Below w.heap.size w w' := by
  obtain ⟨a', hr, hs⟩ := ins_from h hc hf
  have H : Hid (InsI w (.slice a' (n - f) (c - f)) (n - f) (fun i => E (f + i)) (fun i => N (f + i))) := hs
  have IN : Hid (∀ i, i < n → insB (E i) (N i) = true) := hi
  have FIN : Hid (∀ m, f + m ≤ n → (∀ j, j < m → okB E f j = true) → (f + m = n ∨ okB E f m = false) → toF f (endF n E f) = toF f (endTo E f m)) := fun m h1 h2 h3 => by rw [endF_eq h1 h2 h3]
  have hnf : n - f ≤ 60 := by omega
  have hK : Hid (∀ m, m < n - f → f + m < n) := fun m h => by omega
  generalize toF f (endF n E f) = Q at *
  clear hs hi h
  generalize hk : n - f = k at *
  have HK : Hid (f + k = n) := by show _ = _; omega
  clear hk
  go_enter Try.func18, Try.ntmps18
  go_wp2
  generalize hW : (w.alloc (.cells #[.int .i64 0, .int .i64 0] 41)).alloc (.cells #[.int .i64 (f : Int), .int .i64 (f : Int)] 41) = W0
  have B0 : Hid (Below w.heap.size w W0) := by rw [← hW]; exact two_below
  have XX : Hid (Box W0 w.heap.size (.int .i64 0) (.int .i64 0) 41 ∧ Box W0 (w.heap.size + 1) (.int .i64 (f : Int)) (.int .i64 (f : Int)) 41) := by rw [← hW]; exact two_blocks9 w _ _
  clear hW
  go_loopw [6, 7, 18] (fun d b i w' => ∃ m : Nat, m ≤ k ∧ d = .int .i64 (dq E f m) ∧ b = .bool (wk E f m) ∧ i = .int .i64 (m : Int) ∧ (∀ j, j < m → okB E f j = true) ∧ (Box w' w.heap.size (.int .i64 0) (.int .i64 0) 41 ∧ Box w' (w.heap.size + 1) (.int .i64 (f : Int)) (.int .i64 (toF f (endTo E f m) : Int)) 41) ∧ Below w.heap.size w w') (fun _ _ i _ => k - (intOf i).toNat)
  case atStart => exact ⟨0, by omega, by rw [dq_zero], rfl, rfl, fun j hj => absurd hj (by omega), XX.out, B0.out⟩
  case round =>
    obtain ⟨m, hm, rfl, rfl, rfl, hA, hX, hb⟩ := hrel
    have HA : Hid (∀ j, j < m → okB E f j = true) := hA
    have HX : Hid (Box wr w.heap.size (.int .i64 0) (.int .i64 0) 41 ∧ Box wr (w.heap.size + 1) (.int .i64 (f : Int)) (.int .i64 (toF f (endTo E f m) : Int)) 41) := hX
    have HB : Hid (Below w.heap.size w wr) := hb
    clear hA hb hX B0 XX
    by_cases hlt : (m : Int) < (k : Int)
    · have L : m < k := by omega
      obtain ⟨o, off, xa, xc, rfl, ho, ⟨p0, p1, p2, p3, p4, p5⟩, _⟩ := (H.out.keep HB.out).at L
      have CP : Hid (∀ W, Calls Try.prog 33 #[.agg #[.int .i64 (E (f + m) 0), .int .i64 (E (f + m) 1), .int .i64 (E (f + m) 2), .int .i64 (E (f + m) 3), .int .i64 (E (f + m) 4), .slice xa (N (f + m)).length xc]] W fun r w' => r = .returned (.bool (plainB (E (f + m)))) ∧ Below W.heap.size W w') := fun W => plain_impl (E (f + m)) W xa _ xc
      have CT : Hid (∀ W, Calls Try.prog 32 #[.agg #[.int .i64 (E (f + m) 0), .int .i64 (E (f + m) 1), .int .i64 (E (f + m) 2), .int .i64 (E (f + m) 3), .int .i64 (E (f + m) 4), .slice xa (N (f + m)).length xc]] W fun r w' => r = .returned (.int .i64 (takesN (E (f + m) 0))) ∧ Below W.heap.size W w') := fun W => taken_impl (insB_in (IN.out _ (hK.out m L)))
      have OK : Hid (okB E f m = (plainB (E (f + m)) && decide (takesN (E (f + m) 0) ≤ dq E f m))) := rfl
      have ED : Hid (dq E f (m + 1) = dq E f m + (1 - takesN (E (f + m) 0))) := dq_succ E f m
      have EW : Hid (wk E f (m + 1) = (wk E f m || decide (0 < takesN (E (f + m) 0)))) := rfl
      have EE : Hid (endTo E f (m + 1) = if dq E f (m + 1) = 1 ∧ wk E f (m + 1) = true then f + m + 1 else endTo E f m) := rfl
      have NE1 : Hid (dq E f m + (1 - takesN (E (f + m) 0)) = 1 → (wk E f m || decide (0 < takesN (E (f + m) 0))) = true → (toF f (endTo E f (m + 1)) : Int) = (f : Int) + (m : Int) + 1) := fun h1 h2 => by rw [EE.out, ED.out, EW.out, if_pos ⟨h1, h2⟩]; simp [toF]
      have NE0 : Hid (¬ (dq E f m + (1 - takesN (E (f + m) 0)) = 1 ∧ (wk E f m || decide (0 < takesN (E (f + m) 0))) = true) → toF f (endTo E f (m + 1)) = toF f (endTo E f m)) := fun h => by rw [EE.out, ED.out, EW.out, if_neg h]
      have NX : Hid (okB E f m = true → ∀ j, j < m + 1 → okB E f j = true) := fun h j hj => by
        by_cases e : j = m
        · rw [e]; exact h
        · exact HA.out j (by omega)
      have QB : Hid (okB E f m = false → Q = toF f (endTo E f m)) := fun h => FIN.out m (Nat.le_of_lt (hK.out m L)) HA.out (.inr h)
      have t0 := takesN_cases (E (f + m) 0)
      have d0 := dq_nonneg HA.out
      have d1 := dq_le E f m
      clear ho EE
      generalize plainB (E (f + m)) = q at *
      generalize takesN (E (f + m) 0) = z at *
      generalize E (f + m) 0 = q0 at *
      generalize E (f + m) 1 = q1 at *
      generalize E (f + m) 2 = q2 at *
      generalize E (f + m) 3 = q3 at *
      generalize E (f + m) 4 = q4 at *
      generalize (N (f + m)).length = nl at *
      generalize dq E f m = D at *
      generalize wk E f m = Z at *
      generalize toF f (endTo E f m) = en at *
      go_wp2_with fail
      have hnew := heap_alloc_new wr (.cells #[.int .i64 q0, .int .i64 q1, .int .i64 q2, .int .i64 q3, .int .i64 q4, .slice xa nl xc] 44)
      have hb1 : Below wr.heap.size wr (wr.alloc (.cells #[.int .i64 q0, .int .i64 q1, .int .i64 q2, .int .i64 q3, .int .i64 q4, .slice xa nl xc] 44)) := one_below
      refine (CT.out _).mono ?_
      rintro r w2 ⟨rfl, hb⟩
      have X2 : Hid (Box w2 w.heap.size (.int .i64 0) (.int .i64 0) 41 ∧ Box w2 (w.heap.size + 1) (.int .i64 (f : Int)) (.int .i64 (en : Int)) 41) := ⟨(HX.out.1.keep hb1).keep hb, (HX.out.2.keep hb1).keep hb⟩
      have B2 : Hid (Below w.heap.size w w2) := bTrans (bTrans HB.out hb1) hb
      have BK2 : Hid (w2.heap[wr.heap.size]? = some (.cells #[.int .i64 q0, .int .i64 q1, .int .i64 q2, .int .i64 q3, .int .i64 q4, .slice xa nl xc] 44 (0, 0))) := by show _ = _; rw [hb.block _ (by simp)]; exact hnew
      clear hb hb1 hnew CT p0 p1 p2 p3 p4 p5
      have p0 : w2.cell? ⟨wr.heap.size, 0, none⟩ = some (.int .i64 q0) := cell_at BK2.out rfl
      have p1 : w2.cell? ⟨wr.heap.size, 1, none⟩ = some (.int .i64 q1) := cell_at BK2.out rfl
      have p2 : w2.cell? ⟨wr.heap.size, 2, none⟩ = some (.int .i64 q2) := cell_at BK2.out rfl
      have p3 : w2.cell? ⟨wr.heap.size, 3, none⟩ = some (.int .i64 q3) := cell_at BK2.out rfl
      have p4 : w2.cell? ⟨wr.heap.size, 4, none⟩ = some (.int .i64 q4) := cell_at BK2.out rfl
      have p5 : w2.cell? ⟨wr.heap.size, 5, none⟩ = some (.slice xa nl xc) := cell_at BK2.out rfl
      go_wp2_with fail
      refine (CP.out _).mono ?_
      rintro r w3 ⟨rfl, hb⟩
      have X3 : Hid (Box w3 w.heap.size (.int .i64 0) (.int .i64 0) 41 ∧ Box w3 (w.heap.size + 1) (.int .i64 (f : Int)) (.int .i64 (en : Int)) 41) := ⟨X2.out.1.keep hb, X2.out.2.keep hb⟩
      have B3 : Hid (Below w.heap.size w w3) := bTrans B2.out hb
      clear hb CP p0 p1 p2 p3 p4 p5 X2 BK2
      cases q
      · have QV : Hid (Q = en) := QB.out (by rw [OK.out]; rfl)
        have c0 := X3.out.1.c0
        have c1 := X3.out.1.c1
        have e0 := X3.out.2.c0
        have e1 := X3.out.2.c1
        have f0 := free_at X3.out.1 0
        have f1 := free_at X3.out.1 1
        go_wp2
        exact bodyPost_ret (v := .agg #[.int .i64 (f : Int), .int .i64 (en : Int)]) (by simp [results, Try.results18, go_sem, cell_set2 X3.out.1]) rfl ⟨by rw [QV.out], below_setCell (below_setCell B3.out (Nat.le_refl _) _ _) (Nat.le_refl _) _ _⟩
      · by_cases hz : D < z
        · have QV : Hid (Q = en) := QB.out (by rw [OK.out]; simp; omega)
          have c0 := X3.out.1.c0
          have c1 := X3.out.1.c1
          have e0 := X3.out.2.c0
          have e1 := X3.out.2.c1
          have f0 := free_at X3.out.1 0
          have f1 := free_at X3.out.1 1
          go_wp2
          exact bodyPost_ret (v := .agg #[.int .i64 (f : Int), .int .i64 (en : Int)]) (by simp [results, Try.results18, go_sem, cell_set2 X3.out.1]) rfl ⟨by rw [QV.out], below_setCell (below_setCell B3.out (Nat.le_refl _) _ _) (Nat.le_refl _) _ _⟩
        · have NA : Hid (∀ j, j < m + 1 → okB E f j = true) := NX.out (by rw [OK.out]; simp; omega)
          have hw : IntKind.i64.wrap (D + (1 - z)) = D + (1 - z) := by rw [IntKind.wrap_i64]; omega
          clear NX QB OK
          rcases t0 with rfl | rfl | rfl <;> cases Z
          · by_cases hd : D + (1 - (0 : Int)) = 1
            · have NE : Hid (_ = _) := NE0.out (fun h => absurd h.2 (by decide))
              go_wp2
              go_roundw
              case rel => exact ⟨m + 1, by omega, by rw [ED.out]; try (first | rfl | go_num), by rw [EW.out]; rfl, by go_num, NA.out, ⟨X3.out.1, by rw [NE.out]; exact X3.out.2⟩, B3.out⟩
              case measure => simp [intOf]; omega
            · have NE : Hid (_ = _) := NE0.out (fun h => absurd h.1 hd)
              go_wp2
              go_roundw
              case rel => exact ⟨m + 1, by omega, by rw [ED.out]; try (first | rfl | go_num), by rw [EW.out]; rfl, by go_num, NA.out, ⟨X3.out.1, by rw [NE.out]; exact X3.out.2⟩, B3.out⟩
              case measure => simp [intOf]; omega
          · by_cases hd : D + (1 - (0 : Int)) = 1
            · have NE : Hid (_ = _) := NE1.out hd rfl
              have c0 := X3.out.1.c0
              have c1 := X3.out.1.c1
              have d0 := X3.out.2.c0
              have d1 := X3.out.2.c1
              have f1 := free_at X3.out.2 1
              have X4 : Hid (Box (w3.setCell ⟨w.heap.size + 1, 1, none⟩ (.int .i64 ((f : Int) + (m : Int) + 1))) w.heap.size (.int .i64 0) (.int .i64 0) 41 ∧ Box (w3.setCell ⟨w.heap.size + 1, 1, none⟩ (.int .i64 ((f : Int) + (m : Int) + 1))) (w.heap.size + 1) (.int .i64 (f : Int)) (.int .i64 ((f : Int) + (m : Int) + 1)) 41) := ⟨X3.out.1.win (win_setCell _ _ _ _) (.inl (by omega)), box_set1 X3.out.2 _⟩
              have B4 : Hid (Below w.heap.size w (w3.setCell ⟨w.heap.size + 1, 1, none⟩ (.int .i64 ((f : Int) + (m : Int) + 1)))) := below_setCell B3.out (by omega) _ _
              go_wp2
              go_roundw
              case rel => exact ⟨m + 1, by omega, by rw [ED.out]; try (first | rfl | go_num), by rw [EW.out]; rfl, by go_num, NA.out, ⟨X4.out.1, by rw [NE.out]; exact X4.out.2⟩, B4.out⟩
              case measure => simp [intOf]; omega
            · have NE : Hid (_ = _) := NE0.out (fun h => absurd h.1 hd)
              go_wp2
              go_roundw
              case rel => exact ⟨m + 1, by omega, by rw [ED.out]; try (first | rfl | go_num), by rw [EW.out]; rfl, by go_num, NA.out, ⟨X3.out.1, by rw [NE.out]; exact X3.out.2⟩, B3.out⟩
              case measure => simp [intOf]; omega
          · by_cases hd : D + (1 - (1 : Int)) = 1
            · have NE : Hid (_ = _) := NE1.out hd rfl
              have c0 := X3.out.1.c0
              have c1 := X3.out.1.c1
              have d0 := X3.out.2.c0
              have d1 := X3.out.2.c1
              have f1 := free_at X3.out.2 1
              have X4 : Hid (Box (w3.setCell ⟨w.heap.size + 1, 1, none⟩ (.int .i64 ((f : Int) + (m : Int) + 1))) w.heap.size (.int .i64 0) (.int .i64 0) 41 ∧ Box (w3.setCell ⟨w.heap.size + 1, 1, none⟩ (.int .i64 ((f : Int) + (m : Int) + 1))) (w.heap.size + 1) (.int .i64 (f : Int)) (.int .i64 ((f : Int) + (m : Int) + 1)) 41) := ⟨X3.out.1.win (win_setCell _ _ _ _) (.inl (by omega)), box_set1 X3.out.2 _⟩
              have B4 : Hid (Below w.heap.size w (w3.setCell ⟨w.heap.size + 1, 1, none⟩ (.int .i64 ((f : Int) + (m : Int) + 1)))) := below_setCell B3.out (by omega) _ _
              go_wp2
              go_roundw
              case rel => exact ⟨m + 1, by omega, by rw [ED.out]; try (first | rfl | go_num), by rw [EW.out]; rfl, by go_num, NA.out, ⟨X4.out.1, by rw [NE.out]; exact X4.out.2⟩, B4.out⟩
              case measure => simp [intOf]; omega
            · have NE : Hid (_ = _) := NE0.out (fun h => absurd h.1 hd)
              go_wp2
              go_roundw
              case rel => exact ⟨m + 1, by omega, by rw [ED.out]; try (first | rfl | go_num), by rw [EW.out]; rfl, by go_num, NA.out, ⟨X3.out.1, by rw [NE.out]; exact X3.out.2⟩, B3.out⟩
              case measure => simp [intOf]; omega
          · by_cases hd : D + (1 - (1 : Int)) = 1
            · have NE : Hid (_ = _) := NE1.out hd rfl
              have c0 := X3.out.1.c0
              have c1 := X3.out.1.c1
              have d0 := X3.out.2.c0
              have d1 := X3.out.2.c1
              have f1 := free_at X3.out.2 1
              have X4 : Hid (Box (w3.setCell ⟨w.heap.size + 1, 1, none⟩ (.int .i64 ((f : Int) + (m : Int) + 1))) w.heap.size (.int .i64 0) (.int .i64 0) 41 ∧ Box (w3.setCell ⟨w.heap.size + 1, 1, none⟩ (.int .i64 ((f : Int) + (m : Int) + 1))) (w.heap.size + 1) (.int .i64 (f : Int)) (.int .i64 ((f : Int) + (m : Int) + 1)) 41) := ⟨X3.out.1.win (win_setCell _ _ _ _) (.inl (by omega)), box_set1 X3.out.2 _⟩
              have B4 : Hid (Below w.heap.size w (w3.setCell ⟨w.heap.size + 1, 1, none⟩ (.int .i64 ((f : Int) + (m : Int) + 1)))) := below_setCell B3.out (by omega) _ _
              go_wp2
              go_roundw
              case rel => exact ⟨m + 1, by omega, by rw [ED.out]; try (first | rfl | go_num), by rw [EW.out]; rfl, by go_num, NA.out, ⟨X4.out.1, by rw [NE.out]; exact X4.out.2⟩, B4.out⟩
              case measure => simp [intOf]; omega
            · have NE : Hid (_ = _) := NE0.out (fun h => absurd h.1 hd)
              go_wp2
              go_roundw
              case rel => exact ⟨m + 1, by omega, by rw [ED.out]; try (first | rfl | go_num), by rw [EW.out]; rfl, by go_num, NA.out, ⟨X3.out.1, by rw [NE.out]; exact X3.out.2⟩, B3.out⟩
              case measure => simp [intOf]; omega
          · by_cases hd : D + (1 - (2 : Int)) = 1
            · have NE : Hid (_ = _) := NE1.out hd rfl
              have c0 := X3.out.1.c0
              have c1 := X3.out.1.c1
              have d0 := X3.out.2.c0
              have d1 := X3.out.2.c1
              have f1 := free_at X3.out.2 1
              have X4 : Hid (Box (w3.setCell ⟨w.heap.size + 1, 1, none⟩ (.int .i64 ((f : Int) + (m : Int) + 1))) w.heap.size (.int .i64 0) (.int .i64 0) 41 ∧ Box (w3.setCell ⟨w.heap.size + 1, 1, none⟩ (.int .i64 ((f : Int) + (m : Int) + 1))) (w.heap.size + 1) (.int .i64 (f : Int)) (.int .i64 ((f : Int) + (m : Int) + 1)) 41) := ⟨X3.out.1.win (win_setCell _ _ _ _) (.inl (by omega)), box_set1 X3.out.2 _⟩
              have B4 : Hid (Below w.heap.size w (w3.setCell ⟨w.heap.size + 1, 1, none⟩ (.int .i64 ((f : Int) + (m : Int) + 1)))) := below_setCell B3.out (by omega) _ _
              go_wp2
              go_roundw
              case rel => exact ⟨m + 1, by omega, by rw [ED.out]; try (first | rfl | go_num), by rw [EW.out]; rfl, by go_num, NA.out, ⟨X4.out.1, by rw [NE.out]; exact X4.out.2⟩, B4.out⟩
              case measure => simp [intOf]; omega
            · have NE : Hid (_ = _) := NE0.out (fun h => absurd h.1 hd)
              go_wp2
              go_roundw
              case rel => exact ⟨m + 1, by omega, by rw [ED.out]; try (first | rfl | go_num), by rw [EW.out]; rfl, by go_num, NA.out, ⟨X3.out.1, by rw [NE.out]; exact X3.out.2⟩, B3.out⟩
              case measure => simp [intOf]; omega
          · by_cases hd : D + (1 - (2 : Int)) = 1
            · have NE : Hid (_ = _) := NE1.out hd rfl
              have c0 := X3.out.1.c0
              have c1 := X3.out.1.c1
              have d0 := X3.out.2.c0
              have d1 := X3.out.2.c1
              have f1 := free_at X3.out.2 1
              have X4 : Hid (Box (w3.setCell ⟨w.heap.size + 1, 1, none⟩ (.int .i64 ((f : Int) + (m : Int) + 1))) w.heap.size (.int .i64 0) (.int .i64 0) 41 ∧ Box (w3.setCell ⟨w.heap.size + 1, 1, none⟩ (.int .i64 ((f : Int) + (m : Int) + 1))) (w.heap.size + 1) (.int .i64 (f : Int)) (.int .i64 ((f : Int) + (m : Int) + 1)) 41) := ⟨X3.out.1.win (win_setCell _ _ _ _) (.inl (by omega)), box_set1 X3.out.2 _⟩
              have B4 : Hid (Below w.heap.size w (w3.setCell ⟨w.heap.size + 1, 1, none⟩ (.int .i64 ((f : Int) + (m : Int) + 1)))) := below_setCell B3.out (by omega) _ _
              go_wp2
              go_roundw
              case rel => exact ⟨m + 1, by omega, by rw [ED.out]; try (first | rfl | go_num), by rw [EW.out]; rfl, by go_num, NA.out, ⟨X4.out.1, by rw [NE.out]; exact X4.out.2⟩, B4.out⟩
              case measure => simp [intOf]; omega
            · have NE : Hid (_ = _) := NE0.out (fun h => absurd h.1 hd)
              go_wp2
              go_roundw
              case rel => exact ⟨m + 1, by omega, by rw [ED.out]; try (first | rfl | go_num), by rw [EW.out]; rfl, by go_num, NA.out, ⟨X3.out.1, by rw [NE.out]; exact X3.out.2⟩, B3.out⟩
              case measure => simp [intOf]; omega
    · obtain rfl : m = k := by omega
      have QV : Hid (Q = toF f (endTo E f m)) := FIN.out m (Nat.le_of_eq HK.out) HA.out (.inl HK.out)
      generalize dq E f m = D at *
      generalize wk E f m = Z at *
      generalize toF f (endTo E f m) = en at *
      have c0 := HX.out.1.c0
      have c1 := HX.out.1.c1
      have e0 := HX.out.2.c0
      have e1 := HX.out.2.c1
      have f0 := free_at HX.out.1 0
      have f1 := free_at HX.out.1 1
      go_wp2
      exact bodyPost_ret (v := .agg #[.int .i64 (f : Int), .int .i64 (en : Int)]) (by simp [results, Try.results18, go_sem, cell_set2 HX.out.1]) rfl ⟨by rw [QV.out], below_setCell (below_setCell HB.out (Nat.le_refl _) _ _) (Nat.le_refl _) _ _⟩
end Go.Proofs.Ytpommfkbkknjaaa
