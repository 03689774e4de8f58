/-
  Walks: the specification's l9Line, a function of two, or what stands by itself.
-/
import Derived.Test.YtnebjnglcfebeaaDoorParS5
import Derived.Test.YtnebjnglcfebeaaDoorParS6
import Derived.Deep.Cut
import Derived.Deep.CutRange
namespace Go.Proofs.YtnebjnglcfebeaaDoor
open Go.RowKit
set_option linter.unusedVariables false
set_option linter.unusedSimpArgs false
theorem behind_flat {M : List Nb} {l : Br} (m : Nat) (h : M.map (fun z => z.1) = l.flat 0) : (M.map (fun x => nbBehind x m)).map (fun z => z.1) = l.flat m := by
  rw [List.map_map, show ((fun z : Nb => z.1) ∘ fun x => nbBehind x m) = (fun d : Nd => d.behind m) ∘ (fun z : Nb => z.1) from rfl, ← List.map_map, h, Br.flat_behind, Nat.add_zero]
set_option maxRecDepth 20000 in
set_option maxHeartbeats 8000000 in
theorem lineC {n c k : Nat} {T : Nat → Spn} {a : Option Addr} (IH : LineIH n T a c k) (ha : tokAll T n = true) (hn : n ≤ 300) {w : World} {g p : Nat} {v : Value} {L : List Nb} (h : Cur w g (.slice a n c) p v) (hl : NL g w v L) (ht : TokB w a n T g) (hp : p ≤ n) (hk : n ≤ p + k) (hL : L.length + (n - p) ≤ 1048000) (e1 : ¬ (tkK n T p = 2 ∧ tkK n T (p + 1) = 6)) (e3 : tkK n T p ≠ 3) :
    Calls Tryd.prog 18 #[.pointer (some ⟨g, 0, none⟩)] w fun e w' => LinePost (.slice a n c) w g v L (lineP n T (k + 1) p) e w' := by
  obtain ⟨va, vc, ev⟩ := hl.row.slice
  subst ev
  have H : Hid (St (.slice a n c) w g (.slice va L.length vc) w p (.slice va L.length vc) L) := St.start h hl
  have HG : Hid (g < w.heap.size) := H.out.lt
  have HT : Hid (TokB w a n T g) := ht
  have HN : Hid (NL g w (.slice va L.length vc) L) := hl
  have HI : Hid (LineIH n T a c k) := IH
  have HA : Hid (tokAll T n = true) := ha
  have KD : Hid (∀ W, Below w.heap.size w W → Calls Tryd.prog 34 #[.pointer (some ⟨g, 0, none⟩), .int .i64 0] W fun e w' => e = .returned (.int .i64 (tkK n T p)) ∧ Below W.heap.size W w') := fun W hb => kind_spec (H.out.keep hb).cur (ht.ssA.keep hb) 0 (by omega) (by omega) (by decide)
  have KE : Hid (∀ W, Below w.heap.size w W → Calls Tryd.prog 34 #[.pointer (some ⟨g, 0, none⟩), .int .i64 1] W fun e w' => e = .returned (.int .i64 (tkK n T (p + 1))) ∧ Below W.heap.size W w') := fun W hb => kind_spec (H.out.keep hb).cur (ht.ssA.keep hb) 1 (by omega) (by omega) (by decide)
  clear h hl ht IH ha
  have EX : Hid (lineP n T (k + 1) p = match operP n T (fun q => lineP n T k q) p with
      | none => none
      | some x => if tkK n T x.2 = 3 then (if funTwoB (funP n T x.2).1.1 (funP n T x.2).1.2.1 (funP n T x.2).1.2.2 = true then (match lineP n T k (funP n T x.2).2 with
          | none => none
          | some y => some (.two (funP n T x.2).1.1 (funP n T x.2).1.2.1 (funP n T x.2).1.2.2 x.1 y.1, y.2)) else none)
        else some x) := by show _ = _; rw [lineP, if_neg e1, if_neg e3]; rfl
  have ne3 : (tkK n T p == 3) = false := by simpa using e3
  have HZ : Hid ((tkK n T p == 2) = false ∨ ((tkK n T p == 2) = true ∧ (tkK n T (p + 1) == 6) = false)) := by show _ ∨ _; simp; omega
  have OPC : Hid (∀ W g2, Cur W g2 (.slice a n c) p (.slice none 0 0) → TokB W a n T g2 → Calls Tryd.prog 37 #[.pointer (some ⟨g2, 0, none⟩)] W fun e w' => LinePost (.slice a n c) W g2 (.slice none 0 0) [] (operP n T (fun q => lineP n T k q) p) e w') := fun W g2 hC hT => operand_spec HI.out HA.out hn hC (NL.nil _ _) hT hp hk (by simp; omega)
  have OF : Hid (Fine n p (operP n T (fun q => lineP n T k q) p)) := operP_fine (lineP_fine k (p + 1))
  generalize tkK n T p = z at *
  generalize tkK n T (p + 1) = z1 at *
  clear e1 e3
  cases ho : operP n T (fun q => lineP n T k q) p with
  | none =>
    rw [ho] at OPC EX
    rw [EX.out]
    clear EX ho OF
    go_enter Tryd.func18, Tryd.ntmps18
    go_wp2_with fail
    refine (KD.out _ (Below.refl _ _)).mono ?_
    rintro r w1 ⟨rfl, hb⟩
    have B1 : Hid (Below w.heap.size w w1) := hb
    clear hb KD
    go_upto_region 2 with fail
    go_cut [19] from 13 (fun q w' => q = .bool false ∧ Below w.heap.size w w')
    case first =>
      rcases HZ.out with e2 | ⟨e2, e6⟩
      · go_wp2_with fail
        go_meet
        case rel => exact ⟨rfl, B1.out⟩
      · go_wp2_with fail
        refine (KE.out _ B1.out).mono ?_
        rintro r w2 ⟨rfl, hb⟩
        have B2 : Hid (Below w.heap.size w w2) := bTrans B1.out hb
        clear hb
        go_wp2_with fail
        go_meet
        case rel => exact ⟨rfl, B2.out⟩
    obtain ⟨w2, hwc⟩ : ∃ x, x = wc := ⟨_, rfl⟩
    subst hwc
    obtain ⟨rfl, hb⟩ := hcut
    have B2 : Hid (Below w.heap.size w w2) := hb
    have S2 : Hid (St (.slice a n c) w g (.slice va L.length vc) w2 p (.slice va L.length vc) L) := H.out.keep hb
    have Z2 : Hid (w.heap.size ≤ w2.heap.size) := hb.size
    clear hb KE B1 HZ
    have c0 := S2.out.c0
    have c1 := S2.out.c1
    have o0 : ∀ O : Obj, (w2.alloc O).cell? ⟨g, 0, none⟩ = _ := fun O => (S2.out.keep (bAlloc (Below.refl _ _) O)).c0
    have o1 : ∀ O : Obj, (w2.alloc O).cell? ⟨g, 1, none⟩ = _ := fun O => (S2.out.keep (bAlloc (Below.refl _ _) O)).c1
    have B3 : Hid (Below w2.heap.size w2 (w2.alloc (.cells #[.slice a n c, .int .i64 (p : Int), .slice none 0 0] 44)).drew) := (bAlloc (Below.refl _ _) _).drew
    have C3 : Hid (Cur (w2.alloc (.cells #[.slice a n c, .int .i64 (p : Int), .slice none 0 0] 44)).drew w2.heap.size (.slice a n c) p (.slice none 0 0)) := heap_alloc_new w2 _
    have T3 : Hid (TokB (w2.alloc (.cells #[.slice a n c, .int .i64 (p : Int), .slice none 0 0] 44)).drew a n T w2.heap.size) := (HT.out.below ((S2.out.keep B3.out).vbelow HG.out HN.out)).mono (by have := S2.out.lt; omega)
    go_wp2_with fail
    go_region_law (fail)
    all_goals
      go_wp2_with fail
      refine (OPC.out _ _ C3.out T3.out).mono ?_
      rintro r w4 ⟨rfl, hb⟩
      have B4 : Hid (Below g w w4) := (S2.out.vbelow HG.out HN.out).trans ((B3.out.trans hb).mono (by have := S2.out.lt; omega))
      clear hb C3 T3 B3 OPC S2 B2 c0 c1 o0 o1
      go_wp2
      go_ret
      exact ⟨rfl, B4.out⟩
  | some y =>
    obtain ⟨l1, q⟩ := y
    rw [ho] at OPC EX
    have YF : Hid (p < q ∧ q ≤ n ∧ l1.size + p ≤ q) := OF.out _ ho
    simp only at EX
    clear ho OF
    have FQ : Hid (∀ W v', St (.slice a n c) w g (.slice va L.length vc) W q v' L → Calls Tryd.prog 35 #[.pointer (some ⟨g, 0, none⟩)] W fun r w' => FunPost n T (.slice a n c) w g (.slice va L.length vc) W q v' L r w') := fun W v' hS => by
      have := YF.out
      exact fun9_spec hS (HT.out.below (hS.vbelow HG.out HN.out)).ssA HA.out (by omega) (by omega)
    go_enter Tryd.func18, Tryd.ntmps18
    go_wp2_with fail
    refine (KD.out _ (Below.refl _ _)).mono ?_
    rintro r w1 ⟨rfl, hb⟩
    have B1 : Hid (Below w.heap.size w w1) := hb
    clear hb KD
    go_upto_region 2 with fail
    go_cut [19] from 13 (fun q w' => q = .bool false ∧ Below w.heap.size w w')
    case first =>
      rcases HZ.out with e2 | ⟨e2, e6⟩
      · go_wp2_with fail
        go_meet
        case rel => exact ⟨rfl, B1.out⟩
      · go_wp2_with fail
        refine (KE.out _ B1.out).mono ?_
        rintro r w2 ⟨rfl, hb⟩
        have B2 : Hid (Below w.heap.size w w2) := bTrans B1.out hb
        clear hb
        go_wp2_with fail
        go_meet
        case rel => exact ⟨rfl, B2.out⟩
    obtain ⟨w2, hwc⟩ : ∃ x, x = wc := ⟨_, rfl⟩
    subst hwc
    obtain ⟨rfl, hb⟩ := hcut
    have B2 : Hid (Below w.heap.size w w2) := hb
    have S2 : Hid (St (.slice a n c) w g (.slice va L.length vc) w2 p (.slice va L.length vc) L) := H.out.keep hb
    have Z2 : Hid (w.heap.size ≤ w2.heap.size) := hb.size
    clear hb KE B1 HZ
    have c0 := S2.out.c0
    have c1 := S2.out.c1
    have o0 : ∀ O : Obj, (w2.alloc O).cell? ⟨g, 0, none⟩ = _ := fun O => (S2.out.keep (bAlloc (Below.refl _ _) O)).c0
    have o1 : ∀ O : Obj, (w2.alloc O).cell? ⟨g, 1, none⟩ = _ := fun O => (S2.out.keep (bAlloc (Below.refl _ _) O)).c1
    have B3 : Hid (Below w2.heap.size w2 (w2.alloc (.cells #[.slice a n c, .int .i64 (p : Int), .slice none 0 0] 44)).drew) := (bAlloc (Below.refl _ _) _).drew
    have C3 : Hid (Cur (w2.alloc (.cells #[.slice a n c, .int .i64 (p : Int), .slice none 0 0] 44)).drew w2.heap.size (.slice a n c) p (.slice none 0 0)) := heap_alloc_new w2 _
    have T3 : Hid (TokB (w2.alloc (.cells #[.slice a n c, .int .i64 (p : Int), .slice none 0 0] 44)).drew a n T w2.heap.size) := (HT.out.below ((S2.out.keep B3.out).vbelow HG.out HN.out)).mono (by have := S2.out.lt; omega)
    go_wp2_with fail
    go_region_law (fail)
    all_goals
      go_wp2_with fail
      refine (OPC.out _ _ C3.out T3.out).mono ?_
      rintro r w4 ⟨rfl, vL, ML, hS, hM⟩
      simp only [List.nil_append] at hS
      have hB : Below w2.heap.size w2 w4 := B3.out.trans (hS.vbelow (by simp) (NL.nil _ _))
      have S4 : Hid (St (.slice a n c) w g (.slice va L.length vc) w4 p (.slice va L.length vc) L) := S2.out.keep hB
      have L4 : Hid (Cur w4 w2.heap.size (.slice a n c) q vL ∧ NL w2.heap.size w4 vL ML) := ⟨hS.cur, hS.nl⟩
      have HM : Hid (ML.map (fun z => z.1) = l1.flat 0) := hM
      have MLn : Hid (ML.length = l1.size) := by show _ = _; rw [← List.length_map (f := fun z : Nb => z.1), hM, Br.flat_len]
      clear hS hM hB C3 T3 B3 OPC S2 B2 c0 c1 o0 o1
      obtain ⟨ub, ud, evL⟩ := L4.out.2.row.slice
      subst evL
      have NO : Hid (∀ x, x ∈ ML → NdOk x.1) := fun x hx => flat_ok l1 0 (by have := YF.out; omega) _ (by rw [← HM.out]; exact List.mem_map_of_mem hx)
      have LG : Hid (g < w2.heap.size ∧ w2.heap.size < w4.heap.size) := ⟨by have := HG.out; have := Z2.out; omega, lt_of_heapA L4.out.1⟩
      have l1c := cell_at (k := 1) L4.out.1 rfl
      have l2c := cell_at (k := 2) L4.out.1 rfl
      have d1 := S4.out.c1
      have df := S4.out.free 1
      have NGa : ¬ w2.heap.size = g := by have := LG.out; omega
      have NGb : ¬ g = w2.heap.size := by have := LG.out; omega
      go_wp2_with fail
      have S5 : Hid (St (.slice a n c) w g (.slice va L.length vc) (w4.setCell ⟨g, 1, none⟩ (.int .i64 (q : Int))) q (.slice va L.length vc) L) := S4.out.move q
      have L5 : Hid (Cur (w4.setCell ⟨g, 1, none⟩ (.int .i64 (q : Int))) w2.heap.size (.slice a n c) q (.slice ub ML.length ud) ∧ NL w2.heap.size (w4.setCell ⟨g, 1, none⟩ (.int .i64 (q : Int))) (.slice ub ML.length ud) ML) := ⟨L4.out.1.other NGb _ _, L4.out.2.same fun j h1 h2 => (show Win g (g + 1) w4 (w4.setCell ⟨g, 1, none⟩ (.int .i64 (q : Int))) from win_setCell _ _ _ _).block j h2 (by have := LG.out; omega)⟩
      have Z5 : Hid (w2.heap.size < (w4.setCell ⟨g, 1, none⟩ (.int .i64 (q : Int))).heap.size) := by rw [size_setCell]; exact LG.out.2
      clear S4 L4 l1c l2c d1 df
      obtain ⟨W5, hW5⟩ : ∃ W5, W5 = w4.setCell ⟨g, 1, none⟩ (.int .i64 (q : Int)) := ⟨_, rfl⟩
      rw [← hW5] at S5 L5 Z5 ⊢
      clear hW5
      refine (FQ.out _ _ S5.out).mono ?_
      rintro r w6 hF
      unfold FunPost at hF
      clear FQ
      by_cases e5 : tkK n T q = 3
      · rw [if_pos e5] at hF EX
        have hfq := funP_in (n := n) (T := T) e5
        obtain ⟨⟨⟨s0, o0, h0⟩, q0⟩, hfp⟩ : ∃ x, x = funP n T q := ⟨_, rfl⟩
        rw [← hfp] at hF EX hfq
        simp only at hF EX hfq
        obtain ⟨rfl, hS6, hC6⟩ := hF
        have FT : Hid (∀ W, Calls Tryd.prog 39 #[.agg #[.int .i64 s0, .int .i64 o0, .int .i64 h0]] W fun e w' => e = .returned (.bool (funTwoB s0 o0 h0)) ∧ Below W.heap.size W w') := fun W => funTwo_spec s0 o0 h0 W
        have CL : Hid (∀ W, St (.slice a n c) w g (.slice va L.length vc) W q0 (.slice va L.length vc) L → Calls Tryd.prog 18 #[.pointer (some ⟨g, 0, none⟩)] W fun e w' => LinePost (.slice a n c) W g (.slice va L.length vc) L (lineP n T k q0) e w') := fun W hS => by
          have := YF.out
          exact HI.out W g q0 _ L hS.cur hS.nl (HT.out.below (hS.vbelow HG.out HN.out)) (by omega) (by omega) (by omega)
        obtain ⟨W7, hW7⟩ : ∃ W7, W7 = w6.alloc (.cells #[.int .i64 s0, .int .i64 o0, .int .i64 h0] 64) := ⟨_, rfl⟩
        have K67 : Below w6.heap.size w6 W7 := by rw [hW7]; exact bAlloc (Below.refl _ _) _
        have S7 : Hid (St (.slice a n c) w g (.slice va L.length vc) W7 q0 (.slice va L.length vc) L) := hS6.keep K67
        have F7 : Hid (W7.heap[w6.heap.size]? = some (.cells #[.int .i64 s0, .int .i64 o0, .int .i64 h0] 64 (0, 0))) := by rw [hW7]; exact heap_alloc_new _ _
        have L7 : Hid (W7.heap[w2.heap.size]? = some (.cells #[.slice a n c, .int .i64 (q : Int), .slice ub ML.length ud] 44 (0, 0)) ∧ NL w2.heap.size W7 (.slice ub ML.length ud) ML) := ⟨by
          rw [K67.block _ (Nat.lt_of_lt_of_le Z5.out hC6.size), hC6.block _ Z5.out NGa (by simp [Value.ownBlock])]
          exact L5.out.1, (L5.out.2.same fun j h1 h2 => hC6.block j h2 (by have := LG.out; omega) (by simp [Value.ownBlock])).keep K67⟩
        have Z7 : Hid (w2.heap.size < w6.heap.size) := Nat.lt_of_lt_of_le Z5.out hC6.size
        have W7e : Hid (W7 = w6.alloc (.cells #[.int .i64 s0, .int .i64 o0, .int .i64 h0] 64)) := hW7
        clear hS6 hC6 K67 hW7 S5 L5 hfp e5
        go_wp2_with fail
        try rw [← W7e.out]
        refine (FT.out _).mono ?_
        rintro r w8 ⟨rfl, hb⟩
        have S8 : Hid (St (.slice a n c) w g (.slice va L.length vc) w8 q0 (.slice va L.length vc) L) := S7.out.keep hb
        have F8 : Hid (w8.heap[w6.heap.size]? = some (.cells #[.int .i64 s0, .int .i64 o0, .int .i64 h0] 64 (0, 0))) := by show _ = _; rw [hb.block _ (lt_of_heapA F7.out)]; exact F7.out
        have L8 : Hid (w8.heap[w2.heap.size]? = some (.cells #[.slice a n c, .int .i64 (q : Int), .slice ub ML.length ud] 44 (0, 0)) ∧ NL w2.heap.size w8 (.slice ub ML.length ud) ML) := ⟨by rw [hb.block _ (lt_of_heapA L7.out.1)]; exact L7.out.1, L7.out.2.keep hb⟩
        clear hb FT S7 F7 L7 W7e
        by_cases hf2 : funTwoB s0 o0 h0 = true
        · rw [if_pos hf2] at EX
          rw [hf2]
          clear hf2
          go_wp2_with fail
          refine (CL.out _ S8.out).mono ?_
          rintro r w9 hL9
          cases hx : lineP n T k q0 with
          | none =>
            rw [hx] at hL9 EX
            obtain ⟨rfl, hb⟩ := hL9
            have B9 : Hid (Below g w w9) := (S8.out.vbelow HG.out HN.out).trans hb
            clear hb CL S8 F8 L8 hx
            go_wp2
            go_ret
            rw [EX.out]
            exact ⟨rfl, B9.out⟩
          | some y =>
            obtain ⟨r1, q2⟩ := y
            have ZF : Hid (q0 < q2 ∧ q2 ≤ n ∧ r1.size + q0 ≤ q2) := lineP_fine (n := n) (T := T) k q0 _ hx
            have RP : Hid (1 ≤ r1.size ∧ 1 ≤ l1.size) := ⟨r1.size_pos, l1.size_pos⟩
            rw [hx] at hL9 EX
            obtain ⟨rfl, v9, MR, hS, hM⟩ := hL9
            have ow : ∀ j, (Value.slice va L.length vc).ownBlock = some j → j < w2.heap.size := fun j hj => by have := (HN.out.row.own j hj).2; have := Z2.out; omega
            have F9 : Hid (w9.heap[w6.heap.size]? = some (.cells #[.int .i64 s0, .int .i64 o0, .int .i64 h0] 64 (0, 0))) := by
              show _ = _
              rw [hS.chg.block _ (lt_of_heapA F8.out) (by have := LG.out; have := Z7.out; omega) (fun e => by have := ow _ e; have := Z7.out; omega)]
              exact F8.out
            have L9 : Hid (w9.heap[w2.heap.size]? = some (.cells #[.slice a n c, .int .i64 (q : Int), .slice ub ML.length ud] 44 (0, 0)) ∧ NL w2.heap.size w9 (.slice ub ML.length ud) ML) := ⟨by
              rw [hS.chg.block _ (lt_of_heapA L8.out.1) NGa (fun e => by have := ow _ e; omega)]
              exact L8.out.1, L8.out.2.same fun j h1 h2 => hS.chg.block j h2 (by have := LG.out; omega) (fun e => by have := ow _ e; omega)⟩
            have U1 : Hid (∀ j, (Value.slice ub ML.length ud).ownBlock = some j → j < w8.heap.size) := fun j hj => (L8.out.2.row.own j hj).2
            have U2 : Hid (∀ x, x ∈ ML → x.1.l ≠ [] → x.2.2 < w8.heap.size) := fun x hx hl => piece_lt (L8.out.2.nums x hx).1 hl
            have U3 : Hid (∀ j, v9.ownBlock = some j → j ≤ w2.heap.size ∨ w8.heap.size ≤ j) := fun j hj => by
              rcases hS.own j hj with e | e
              · exact .inl (Nat.le_of_lt (ow j e))
              · exact .inr e
            have Z8 : Hid (w6.heap.size < w8.heap.size) := lt_of_heapA F8.out
            have S9 : Hid (St (.slice a n c) w g (.slice va L.length vc) w9 q2 v9 (L ++ MR)) := S8.out.trans hS
            have HMR : Hid (MR.map (fun z => z.1) = r1.flat L.length) := hM
            have MRn : Hid (MR.length = r1.size) := by show _ = _; rw [← List.length_map (f := fun z : Nb => z.1), hM, Br.flat_len]
            clear hS hM CL S8 F8 L8 ow hx
            obtain ⟨vb, vd, ev9⟩ := S9.out.nl.row.slice
            subst ev9
            obtain ⟨R, hR⟩ : ∃ R, R = L ++ MR := ⟨_, rfl⟩
            have RL : Hid (R.length = L.length + r1.size) := by show _ = _; rw [hR, List.length_append, MRn.out]
            rw [← hR] at S9 U3
            have HR : Hid (R = L ++ MR) := hR
            have wl : IntKind.i64.wrap ((R.length : Int) - 1) = (R.length : Int) - 1 := by have := RL.out; have := ZF.out; rw [IntKind.wrap_i64]; omega
            clear hR
            have c2 := S9.out.c2
            have l2c := cell_at (k := 2) L9.out.1 rfl
            go_wp2_with fail
            refine (behind_spec (n := n) (c := c) S9.out.cur S9.out.nl L9.out.2 LG.out.1 U1.out U2.out U3.out NO.out (by have := RL.out; have := ZF.out; have := YF.out; have := MLn.out; omega)).mono ?_
            rintro r w10 ⟨rfl, v10, hS⟩
            have F10 : Hid (w10.heap[w6.heap.size]? = some (.cells #[.int .i64 s0, .int .i64 o0, .int .i64 h0] 64 (0, 0))) := by
              show _ = _
              rw [hS.chg.block _ (lt_of_heapA F9.out) (by have := LG.out; have := Z7.out; omega) (fun e => by have := Z7.out; have := Z8.out; rcases U3.out _ e with q | q <;> omega)]
              exact F9.out
            have S10 : Hid (St (.slice a n c) w g (.slice va L.length vc) w10 q2 v10 (R ++ ML.map (fun x => nbBehind x R.length))) := S9.out.trans hS
            clear hS S9 F9 L9 U1 U2 U3 c2 l2c
            obtain ⟨vf, vh, ev10⟩ := S10.out.nl.row.slice
            subst ev10
            obtain ⟨P, hP⟩ : ∃ P, P = R ++ ML.map (fun x => nbBehind x R.length) := ⟨_, rfl⟩
            have PL : Hid (P.length = L.length + r1.size + l1.size) := by show _ = _; rw [hP, List.length_append, List.length_map, MLn.out, RL.out]
            rw [← hP] at S10
            have HP : Hid (P = L ++ (MR ++ ML.map (fun x => nbBehind x R.length))) := by show _ = _; rw [hP, HR.out, List.append_assoc]
            have wP : IntKind.i64.wrap ((P.length : Int) - 1) = (P.length : Int) - 1 := by have := PL.out; have := ZF.out; have := YF.out; rw [IntKind.wrap_i64]; omega
            clear hP
            have c2 := S10.out.c2
            have z0 := cell_at (k := 0) F10.out rfl
            have z1 := cell_at (k := 1) F10.out rfl
            have z2 := cell_at (k := 2) F10.out rfl
            have o2 : ∀ O : Obj, (w10.alloc O).cell? ⟨g, 2, none⟩ = _ := fun O => (S10.out.keep (bAlloc (Below.refl _ _) O)).c2
            obtain ⟨a9, c9, w11, hr, ⟨u9, hu9⟩, hf9, hS9⟩ := S10.out.app (V := (w10.alloc (.cells #[.int .i64 5, .int .i64 ((P.length : Int) - 1), .int .i64 ((R.length : Int) - 1), .int .i64 s0, .int .i64 o0, .int .i64 h0, .slice none 0 0] 67)).drew) (o := w10.heap.size) ((bAlloc (Below.refl _ _) _).drew) (⟨5, (P.length : Int) - 1, (R.length : Int) - 1, s0, o0, h0, []⟩, .slice none 0 0, 0) (heap_alloc_new w10 _) (Piece.nil _ _ _) (fun e => absurd rfl e) (by have := PL.out; have := ZF.out; have := YF.out; omega)
            have R9 : Hid (∀ ty, (Builtin.append_ #[24, 24] ty #[.slice vf P.length vh, .slice (some ⟨w10.heap.size, 0, none⟩) 1 1]).run Tryd.prog (w10.alloc (.cells #[.int .i64 5, .int .i64 ((P.length : Int) - 1), .int .i64 ((R.length : Int) - 1), .int .i64 s0, .int .i64 o0, .int .i64 h0, .slice none 0 0] 67)).drew = .ok (.slice a9 (P.length + 1) c9) w11) := hr
            have S11 : Hid (St (.slice a n c) w g (.slice va L.length vc) (w11.setCell ⟨g, 2, none⟩ (.slice a9 (P.length + 1) c9)) q2 (.slice a9 (P.length + 1) c9) (L ++ ((MR ++ ML.map (fun x => nbBehind x R.length)) ++ [(⟨5, (P.length : Int) - 1, (R.length : Int) - 1, s0, o0, h0, []⟩, .slice none 0 0, 0)]))) := by rw [← List.append_assoc, ← HP.out]; exact hS9
            clear hr hS9 S10 F10
            go_wp2_with fail
            go_region_law (refine step_append_ty (by rfl) (.tmp 148) (.tmp 158) 24 24 (by rfl) _ _ _ (by rfl) (by rfl) (R9.out _) ?_)
            all_goals
              obtain ⟨W12, hW12⟩ : ∃ W12, W12 = w11.setCell ⟨g, 2, none⟩ (.slice a9 (P.length + 1) c9) := ⟨_, rfl⟩
              rw [← hW12] at S11 ⊢
              clear hW12 hu9 hf9 R9 c2 o2 z0 z1 z2
              go_wp2
              go_ret
              rw [EX.out]
              exact ⟨rfl, _, _, S11.out, by rw [List.map_append, List.map_append, HMR.out, behind_flat _ HM.out]; simp only [Br.flat, List.map_cons, List.map_nil, RL.out, PL.out, Int.natCast_add]⟩
        · rw [if_neg hf2] at EX
          have hf3 : funTwoB s0 o0 h0 = false := by simpa using hf2
          rw [hf3]
          clear CL hf2 hf3 F8 L8
          go_wp2
          go_ret
          rw [EX.out]
          exact ⟨rfl, S8.out.vbelow HG.out HN.out⟩
      · rw [if_neg e5] at hF EX
        obtain ⟨rfl, hb⟩ := hF
        obtain ⟨W7, hW7⟩ : ∃ W7, W7 = w6.alloc (.cells #[.int .i64 0, .int .i64 0, .int .i64 0] 64) := ⟨_, rfl⟩
        have K67 : Below W5.heap.size W5 W7 := by rw [hW7]; exact bTrans hb (bAlloc (Below.refl _ _) _)
        have S7 : Hid (St (.slice a n c) w g (.slice va L.length vc) W7 q (.slice va L.length vc) L) := S5.out.keep K67
        have L7 : Hid (W7.heap[w2.heap.size]? = some (.cells #[.slice a n c, .int .i64 (q : Int), .slice ub ML.length ud] 44 (0, 0)) ∧ NL w2.heap.size W7 (.slice ub ML.length ud) ML) := ⟨by rw [K67.block _ Z5.out]; exact L5.out.1, L5.out.2.keep K67⟩
        have l2w : w6.cell? ⟨w2.heap.size, 2, none⟩ = some (.slice ub ML.length ud) := cell_at (k := 2) (by rw [hb.block _ Z5.out]; exact L5.out.1) rfl
        have l2c := cell_at (k := 2) L7.out.1 rfl
        have W7e : Hid (W7 = w6.alloc (.cells #[.int .i64 0, .int .i64 0, .int .i64 0] 64)) := hW7
        rw [hW7] at l2c
        clear hb S5 L5 K67 hW7 e5
        go_wp2_with fail
        try rw [← W7e.out]
        refine (behind_spec (n := n) (c := c) S7.out.cur S7.out.nl L7.out.2 LG.out.1 (m := W7.heap.size) (fun j hj => (L7.out.2.row.own j hj).2) (fun x hx hl => piece_lt (L7.out.2.nums x hx).1 hl) (fun j hj => .inl (by have := (HN.out.row.own j hj).2; have := Z2.out; omega)) NO.out (by have := YF.out; have := MLn.out; omega)).mono ?_
        rintro r w10 ⟨rfl, v10, hS⟩
        have S10 : Hid (St (.slice a n c) w g (.slice va L.length vc) w10 q v10 (L ++ ML.map (fun x => nbBehind x L.length))) := S7.out.trans hS
        clear hS S7 L7 W7e l2c l2w
        go_wp2
        go_ret
        rw [EX.out]
        exact ⟨rfl, _, _, S10.out, behind_flat _ HM.out⟩
end Go.Proofs.YtnebjnglcfebeaaDoor
