/-
  Walks: the specification's l9Line, a function of one.
-/
import Derived.Test.YtnebjnglcfebeaaDoorParS4
namespace Go.Proofs.YtnebjnglcfebeaaDoor
open Go.RowKit
set_option linter.unusedVariables false
set_option linter.unusedSimpArgs false
set_option maxRecDepth 20000 in
set_option maxHeartbeats 8000000 in
theorem lineB {n c k : Nat} {T : Nat → Spn} {a : Option Addr} (IH : LineIH n T a c k) (ha : tokAll T n = true) (hn : n ≤ 300) {w : World} {g p : Nat} {v : Value} {L : List Nb} (h : Cur w g (.slice a n c) p v) (hl : NL g w v L) (ht : TokB w a n T g) (hp : p ≤ n) (hk : n ≤ p + k) (hL : L.length + (n - p) ≤ 1048000) (e1 : tkK n T p = 3) :
    Calls Tryd.prog 18 #[.pointer (some ⟨g, 0, none⟩)] w fun e w' => LinePost (.slice a n c) w g v L (lineP n T (k + 1) p) e w' := by
  obtain ⟨va, vc, ev⟩ := hl.row.slice
  subst ev
  have H : Hid (St (.slice a n c) w g (.slice va L.length vc) w p (.slice va L.length vc) L) := St.start h hl
  have HG : Hid (g < w.heap.size) := H.out.lt
  have HT : Hid (TokB w a n T g) := ht
  have HN : Hid (NL g w (.slice va L.length vc) L) := hl
  have HI : Hid (LineIH n T a c k) := IH
  have HA : Hid (tokAll T n = true) := ha
  have KD : Hid (∀ W, Below w.heap.size w W → Calls Tryd.prog 34 #[.pointer (some ⟨g, 0, none⟩), .int .i64 0] W fun e w' => e = .returned (.int .i64 (tkK n T p)) ∧ Below W.heap.size W w') := fun W hb => kind_spec (H.out.keep hb).cur (ht.ssA.keep hb) 0 (by omega) (by omega) (by decide)
  have KE : Hid (∀ W, Below w.heap.size w W → Calls Tryd.prog 34 #[.pointer (some ⟨g, 0, none⟩), .int .i64 1] W fun e w' => e = .returned (.int .i64 (tkK n T (p + 1))) ∧ Below W.heap.size W w') := fun W hb => kind_spec (H.out.keep hb).cur (ht.ssA.keep hb) 1 (by omega) (by omega) (by decide)
  clear h hl ht IH ha
  have hf := funP_in (n := n) (T := T) e1
  have EX : Hid (lineP n T (k + 1) p = if funOneB (funP n T p).1.1 (funP n T p).1.2.1 (funP n T p).1.2.2 = true then (match lineP n T k (funP n T p).2 with
      | none => none
      | some x => some (.one (funP n T p).1.1 (funP n T p).1.2.1 (funP n T p).1.2.2 x.1, x.2)) else none) := by show _ = _; rw [lineP, if_neg (by omega), if_pos e1]; rfl
  have FC : Hid (∀ W, St (.slice a n c) w g (.slice va L.length vc) W p (.slice va L.length vc) L → Calls Tryd.prog 35 #[.pointer (some ⟨g, 0, none⟩)] W fun r w' => r = .returned (.tuple #[.agg #[.int .i64 (funP n T p).1.1, .int .i64 (funP n T p).1.2.1, .int .i64 (funP n T p).1.2.2], .bool true]) ∧ St (.slice a n c) w g (.slice va L.length vc) w' (funP n T p).2 (.slice va L.length vc) L) := fun W hS => by
    refine (fun9_spec hS (HT.out.below (hS.vbelow HG.out HN.out)).ssA HA.out (by omega) (by omega)).mono ?_
    intro r w' hq
    unfold FunPost at hq
    rw [if_pos e1] at hq
    exact ⟨hq.1, hq.2.1⟩
  rw [e1] at KD
  clear e1
  obtain ⟨⟨⟨s0, o0, h0⟩, q0⟩, hfp⟩ : ∃ x, x = funP n T p := ⟨_, rfl⟩
  rw [← hfp] at hf EX FC
  simp only at hf EX FC
  clear hfp
  have FO : Hid (∀ W, Calls Tryd.prog 36 #[.agg #[.int .i64 s0, .int .i64 o0, .int .i64 h0]] W fun e w' => e = .returned (.bool (funOneB s0 o0 h0)) ∧ Below W.heap.size W w') := fun W => funOne_spec s0 o0 h0 W
  have CL : Hid (∀ W, St (.slice a n c) w g (.slice va L.length vc) W q0 (.slice va L.length vc) L → Calls Tryd.prog 18 #[.pointer (some ⟨g, 0, none⟩)] W fun e w' => LinePost (.slice a n c) W g (.slice va L.length vc) L (lineP n T k q0) e w') := fun W hS => HI.out W g q0 _ L hS.cur hS.nl (HT.out.below (hS.vbelow HG.out HN.out)) (by omega) (by omega) (by omega)
  clear HI KE
  cases hf1 : funOneB s0 o0 h0
  · rw [hf1] at FO
    rw [EX.out, hf1, if_neg (by decide)]
    clear EX hf1 CL
    go_enter Tryd.func18, Tryd.ntmps18
    go_wp2_with fail
    refine (KD.out _ (Below.refl _ _)).mono ?_
    rintro r w1 ⟨rfl, hb⟩
    have S1 : Hid (St (.slice a n c) w g (.slice va L.length vc) w1 p (.slice va L.length vc) L) := H.out.keep hb
    clear hb KD
    go_wp2_with fail
    refine (FC.out _ S1.out).mono ?_
    rintro r w2 ⟨rfl, hS⟩
    obtain ⟨W3, hW3⟩ : ∃ W3, W3 = w2.alloc (.cells #[.int .i64 s0, .int .i64 o0, .int .i64 h0] 64) := ⟨_, rfl⟩
    have S3 : Hid (St (.slice a n c) w g (.slice va L.length vc) W3 q0 (.slice va L.length vc) L) := by rw [hW3]; exact hS.keep (bAlloc (Below.refl _ _) _)
    have F3 : Hid (W3.heap[w2.heap.size]? = some (.cells #[.int .i64 s0, .int .i64 o0, .int .i64 h0] 64 (0, 0))) := by rw [hW3]; exact heap_alloc_new _ _
    have RF : Hid (g < w2.heap.size ∧ w.heap.size ≤ w2.heap.size) := ⟨hS.lt, hS.chg.size⟩
    have W3e : Hid (W3 = w2.alloc (.cells #[.int .i64 s0, .int .i64 o0, .int .i64 h0] 64)) := hW3
    clear hS FC S1 hW3
    go_wp2_with fail
    try rw [← W3e.out]
    refine (FO.out _).mono ?_
    rintro r w4 ⟨rfl, hb⟩
    have S4 : Hid (St (.slice a n c) w g (.slice va L.length vc) w4 q0 (.slice va L.length vc) L) := S3.out.keep hb
    have F4 : Hid (w4.heap[w2.heap.size]? = some (.cells #[.int .i64 s0, .int .i64 o0, .int .i64 h0] 64 (0, 0))) := by show _ = _; rw [hb.block _ (lt_of_heapA F3.out)]; exact F3.out
    clear hb FO S3 F3 W3e
    go_wp2
    go_ret
    exact ⟨rfl, S4.out.vbelow HG.out HN.out⟩
  · rw [hf1] at FO EX
    rw [if_pos rfl] at EX
    clear hf1
    cases hx : lineP n T k q0 with
    | none =>
      rw [hx] at EX CL
      rw [EX.out]
      clear EX hx
      go_enter Tryd.func18, Tryd.ntmps18
      go_wp2_with fail
      refine (KD.out _ (Below.refl _ _)).mono ?_
      rintro r w1 ⟨rfl, hb⟩
      have S1 : Hid (St (.slice a n c) w g (.slice va L.length vc) w1 p (.slice va L.length vc) L) := H.out.keep hb
      clear hb KD
      go_wp2_with fail
      refine (FC.out _ S1.out).mono ?_
      rintro r w2 ⟨rfl, hS⟩
      obtain ⟨W3, hW3⟩ : ∃ W3, W3 = w2.alloc (.cells #[.int .i64 s0, .int .i64 o0, .int .i64 h0] 64) := ⟨_, rfl⟩
      have S3 : Hid (St (.slice a n c) w g (.slice va L.length vc) W3 q0 (.slice va L.length vc) L) := by rw [hW3]; exact hS.keep (bAlloc (Below.refl _ _) _)
      have F3 : Hid (W3.heap[w2.heap.size]? = some (.cells #[.int .i64 s0, .int .i64 o0, .int .i64 h0] 64 (0, 0))) := by rw [hW3]; exact heap_alloc_new _ _
      have RF : Hid (g < w2.heap.size ∧ w.heap.size ≤ w2.heap.size) := ⟨hS.lt, hS.chg.size⟩
      have W3e : Hid (W3 = w2.alloc (.cells #[.int .i64 s0, .int .i64 o0, .int .i64 h0] 64)) := hW3
      clear hS FC S1 hW3
      go_wp2_with fail
      try rw [← W3e.out]
      refine (FO.out _).mono ?_
      rintro r w4 ⟨rfl, hb⟩
      have S4 : Hid (St (.slice a n c) w g (.slice va L.length vc) w4 q0 (.slice va L.length vc) L) := S3.out.keep hb
      have F4 : Hid (w4.heap[w2.heap.size]? = some (.cells #[.int .i64 s0, .int .i64 o0, .int .i64 h0] 64 (0, 0))) := by show _ = _; rw [hb.block _ (lt_of_heapA F3.out)]; exact F3.out
      clear hb FO S3 F3 W3e
      go_wp2_with fail
      refine (CL.out _ S4.out).mono ?_
      rintro r w5 ⟨rfl, hb⟩
      have B5 : Hid (Below g w w5) := (S4.out.vbelow HG.out HN.out).trans hb
      clear hb CL S4 F4
      go_wp2
      go_ret
      exact ⟨rfl, B5.out⟩
    | some y =>
      obtain ⟨y1, q⟩ := y
      rw [hx] at EX CL
      simp only at EX
      have YF : Hid (q0 < q ∧ q ≤ n ∧ y1.size + q0 ≤ q) := lineP_fine (n := n) (T := T) k q0 _ hx
      have YP : Hid (1 ≤ y1.size) := y1.size_pos
      rw [EX.out]
      clear EX hx
      go_enter Tryd.func18, Tryd.ntmps18
      go_wp2_with fail
      refine (KD.out _ (Below.refl _ _)).mono ?_
      rintro r w1 ⟨rfl, hb⟩
      have S1 : Hid (St (.slice a n c) w g (.slice va L.length vc) w1 p (.slice va L.length vc) L) := H.out.keep hb
      clear hb KD
      go_wp2_with fail
      refine (FC.out _ S1.out).mono ?_
      rintro r w2 ⟨rfl, hS⟩
      obtain ⟨W3, hW3⟩ : ∃ W3, W3 = w2.alloc (.cells #[.int .i64 s0, .int .i64 o0, .int .i64 h0] 64) := ⟨_, rfl⟩
      have S3 : Hid (St (.slice a n c) w g (.slice va L.length vc) W3 q0 (.slice va L.length vc) L) := by rw [hW3]; exact hS.keep (bAlloc (Below.refl _ _) _)
      have F3 : Hid (W3.heap[w2.heap.size]? = some (.cells #[.int .i64 s0, .int .i64 o0, .int .i64 h0] 64 (0, 0))) := by rw [hW3]; exact heap_alloc_new _ _
      have RF : Hid (g < w2.heap.size ∧ w.heap.size ≤ w2.heap.size) := ⟨hS.lt, hS.chg.size⟩
      have W3e : Hid (W3 = w2.alloc (.cells #[.int .i64 s0, .int .i64 o0, .int .i64 h0] 64)) := hW3
      clear hS FC S1 hW3
      go_wp2_with fail
      try rw [← W3e.out]
      refine (FO.out _).mono ?_
      rintro r w4 ⟨rfl, hb⟩
      have S4 : Hid (St (.slice a n c) w g (.slice va L.length vc) w4 q0 (.slice va L.length vc) L) := S3.out.keep hb
      have F4 : Hid (w4.heap[w2.heap.size]? = some (.cells #[.int .i64 s0, .int .i64 o0, .int .i64 h0] 64 (0, 0))) := by show _ = _; rw [hb.block _ (lt_of_heapA F3.out)]; exact F3.out
      clear hb FO S3 F3 W3e
      go_wp2_with fail
      refine (CL.out _ S4.out).mono ?_
      rintro r w5 ⟨rfl, v5, M, hS, hM⟩
      have F5 : Hid (w5.heap[w2.heap.size]? = some (.cells #[.int .i64 s0, .int .i64 o0, .int .i64 h0] 64 (0, 0))) := by
        show _ = _
        rw [hS.chg.block _ (lt_of_heapA F4.out) (by have := RF.out; omega) (fun e => by have := (HN.out.row.own _ e).2; have := RF.out; omega)]
        exact F4.out
      have S5 : Hid (St (.slice a n c) w g (.slice va L.length vc) w5 q v5 (L ++ M)) := S4.out.trans hS
      have HM : Hid (M.map (fun z => z.1) = y1.flat L.length) := hM
      have ML : Hid (M.length = y1.size) := by show _ = _; rw [← List.length_map (f := fun z : Nb => z.1), hM, Br.flat_len]
      clear hS hM CL S4 F4
      obtain ⟨vb, vd, ev5⟩ := S5.out.nl.row.slice
      subst ev5
      obtain ⟨R, hR⟩ : ∃ R, R = L ++ M := ⟨_, rfl⟩
      have RL : Hid (R.length = L.length + y1.size) := by show _ = _; rw [hR, List.length_append, ML.out]
      rw [← hR] at S5
      have HR : Hid (R = L ++ M) := hR
      have wl : IntKind.i64.wrap ((R.length : Int) - 1) = (R.length : Int) - 1 := by have := RL.out; have := YF.out; rw [IntKind.wrap_i64]; omega
      clear hR
      have c2 := S5.out.c2
      have z0 := cell_at (k := 0) F5.out rfl
      have z1 := cell_at (k := 1) F5.out rfl
      have z2 := cell_at (k := 2) F5.out rfl
      have o2 : ∀ O : Obj, (w5.alloc O).cell? ⟨g, 2, none⟩ = _ := fun O => (S5.out.keep (bAlloc (Below.refl _ _) O)).c2
      obtain ⟨a9, c9, w9, hr, ⟨u9, hu9⟩, hf9, hS9⟩ := S5.out.app (V := (w5.alloc (.cells #[.int .i64 4, .int .i64 0, .int .i64 ((R.length : Int) - 1), .int .i64 s0, .int .i64 o0, .int .i64 h0, .slice none 0 0] 67)).drew) (o := w5.heap.size) ((bAlloc (Below.refl _ _) _).drew) (⟨4, 0, (R.length : Int) - 1, s0, o0, h0, []⟩, .slice none 0 0, 0) (heap_alloc_new w5 _) (Piece.nil _ _ _) (fun e => absurd rfl e) (by have := RL.out; have := YF.out; omega)
      have R9 : Hid (∀ ty, (Builtin.append_ #[24, 24] ty #[.slice vb R.length vd, .slice (some ⟨w5.heap.size, 0, none⟩) 1 1]).run Tryd.prog (w5.alloc (.cells #[.int .i64 4, .int .i64 0, .int .i64 ((R.length : Int) - 1), .int .i64 s0, .int .i64 o0, .int .i64 h0, .slice none 0 0] 67)).drew = .ok (.slice a9 (R.length + 1) c9) w9) := hr
      have S9 : Hid (St (.slice a n c) w g (.slice va L.length vc) (w9.setCell ⟨g, 2, none⟩ (.slice a9 (R.length + 1) c9)) q (.slice a9 (R.length + 1) c9) (L ++ (M ++ [(⟨4, 0, (R.length : Int) - 1, s0, o0, h0, []⟩, .slice none 0 0, 0)]))) := by rw [← List.append_assoc, ← HR.out]; exact hS9
      clear hr hS9 S5 F5
      go_wp2_with fail
      go_region_law (refine step_append_ty (by rfl) (.tmp 78) (.tmp 87) 24 24 (by rfl) _ _ _ (by rfl) (by rfl) (R9.out _) ?_)
      all_goals
        obtain ⟨W9, hW9⟩ : ∃ W9, W9 = w9.setCell ⟨g, 2, none⟩ (.slice a9 (R.length + 1) c9) := ⟨_, rfl⟩
        rw [← hW9] at S9 ⊢
        clear hW9 hu9 hf9 R9 c2 o2 z0 z1 z2
        go_wp2
        go_ret
        exact ⟨rfl, _, _, S9.out, by rw [List.map_append, HM.out]; simp only [Br.flat, List.map_cons, List.map_nil, RL.out, Int.natCast_add]⟩
end Go.Proofs.YtnebjnglcfebeaaDoor
